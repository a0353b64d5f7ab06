/- Encode of a packet that may be. -/
import Derived.Test.YtnglgedcpmbbjaaK1
import Derived.Test.YtnglgedcpmbbjaaKX
namespace Go.Proofs.Ytnglgedcpmbbjaa
open Go.RowKit
set_option linter.unusedVariables false
set_option maxRecDepth 100000
set_option maxHeartbeats 1000000

theorem flat_take (L : List (List Int)) (k : Nat) (l : List Int) (h : L[k]? = some l) : (L.take (k + 1)).flatten = (L.take k).flatten ++ l := by
  have hk : k < L.length := by
    by_cases c : k < L.length
    · exact c
    · simp [c] at h
  rw [List.take_add_one, h]
  simp
theorem flat_le (L : List (List Int)) (k : Nat) : (L.take k).flatten.length ≤ L.flatten.length := by
  have := congrArg List.length (congrArg List.flatten (List.take_append_drop k L))
  rw [List.flatten_append, List.length_append] at this
  omega

theorem wpList_mkR {P : Program} {ops : Array Oper} {rest : List Oper} {o : Oper} {a : Act} {Q : Exit → Act → World → Prop} (w : World) (hg : o.guard = none) (l c : Operand) (T : TypeId) (hop : o.op = Op.makeSlice T l c) (v u : Value)
    (hl : a.eval l = v) (hc : a.eval c = u) {v' : Value} {w' : World} (hr : (Instr.makeSlice T v u).run P w = .ok v' w')
    (hK : wpList P ops Q rest (a.put o.dst v') w') : wpList P ops Q (o :: rest) a w :=
  wpList_plain hg fun K hK' => by
    unfold Oper.wp execOp
    simp only [hop, Sem.run_bind, Sem.run_pure, Result.andThen_ok, hl, hc, hr]
    exact hK' _ _ hK

theorem encode_good (p : Pk) (h : Good p) (d s y : Value) (w : World) (hd : InB w d p.dst) (hs : InB w s p.src) (hy : InB w y p.payload) (l3 : p.payload.length ≤ 140737488355328) (he : encE p = 0) (ho : ovF p = (overP p, 0)) :
    Calls Try.prog 5 #[p.val d s y] w (EncPost w p) := by
  obtain ⟨a1, c1, rfl, hd1⟩ := id hd
  obtain ⟨a2, c2, rfl, hs1⟩ := id hs
  obtain ⟨a3, c3, rfl, hy1⟩ := id hy
  have hov := fun W => overhead_any p a1 a2 c1 c2 (.slice a3 p.payload.length c3) W (by have := h.d; omega) (by have := h.s; omega)
  rw [ho] at hov
  have hil := fun W => isLong_any p.space W
  have hle := fun W => length_any p (.slice a1 p.dst.length c1) (.slice a2 p.src.length c2) a3 c3 W h.w l3
  have b0 := Blk.new w (p.cs (.slice a1 p.dst.length c1) (.slice a2 p.src.length c2) (.slice a3 p.payload.length c3)) 30
  have g0 := World.grownBy_alloc w (.cells (p.cs (.slice a1 p.dst.length c1) (.slice a2 p.src.length c2) (.slice a3 p.payload.length c3)) 30) none
  have n1 : ¬ p.number < 0 := by have := h.n.1; omega
  have n2 : ¬ 4611686018427387903 < p.number := by have := h.n.2; unfold MAXP at this; omega
  have hN := bytesP_len p h
  have hN2 := bytesP_lt p h
  have F : Hid (∀ W g, w.heap.size ≤ g → W.heap[g]? = some (bts (bytesP p)) → w.grownBy W none → EncPost w p (.returned (.tuple #[.slice (some ⟨g, 0, none⟩) (bytesP p).length (bytesP p).length, .int .i64 0])) W) := fun W g h1 h2 h3 => ⟨.inr ⟨he, h, g, h1, rfl, h2⟩, h3⟩
  have hparts : ∀ gb W, gb < W.heap.size → InX gb W (.slice a1 p.dst.length c1) p.dst → InX gb W (.slice a2 p.src.length c2) p.src → InX gb W (.slice a3 p.payload.length c3) p.payload → Calls Try.prog 13 #[p.val (.slice a1 p.dst.length c1) (.slice a2 p.src.length c2) (.slice a3 p.payload.length c3)] W (PartsPost gb (partsP p) W) := fun gb W q0 q1 q2 q3 => by
    rcases h.sp with e | e | e
    · exact parts_long p h (.inl e) gb _ _ _ W q0 q1 q2 q3
    · exact parts_long p h (.inr e) gb _ _ _ W q0 q1 q2 q3
    · exact parts_app p h e gb _ _ _ W q0 q1 q2 q3
  have hflat : (partsP p).flatten = bytesP p := rfl
  have hwl : IntKind.i64.wrap (overP p + (p.payload.length : Int)) = overP p + (p.payload.length : Int) := by rw [← hN, IntKind.wrap_i64]; omega
  have hmk : ∀ W : World, (Instr.makeSlice 24 (.int .i64 (overP p + (p.payload.length : Int))) (.int .i64 (overP p + (p.payload.length : Int)))).run Try.prog W = .ok (.slice (some ⟨W.heap.size, 0, none⟩) (bytesP p).length (bytesP p).length) (W.alloc (bts (List.replicate (bytesP p).length 0))) := fun W => by
    rw [← hN]; exact mk_bytesN _ (by omega) W
  have HP := hide hparts
  have hll : isLF p.space = true → ¬ 16383 < p.width + (p.payload.length : Int) := fun e => by
    have := of_decide_eq_true e
    have := h.y (by rcases this with e | e <;> rw [e] <;> decide)
    omega
  have HH := hide h
  clear he ho hd1 hs1 hy1 hparts
  go_enter Try.func5, Try.ntmps5
  go_wp2_with fail
  refine (hov _).mono ?_
  rintro e W1 ⟨rfl, g1⟩
  have bW := b0.grown g1
  have gA := g0.trans g1
  have x0 := bW.cell 0 (.int .i64 p.space) rfl
  have x1 := bW.cell 1 (.slice a1 p.dst.length c1) rfl
  have x2 := bW.cell 2 (.slice a2 p.src.length c2) rfl
  have x3 := bW.cell 3 (.int .i64 p.number) rfl
  have x4 := bW.cell 4 (.int .i64 p.width) rfl
  have x5 := bW.cell 5 (.slice a3 p.payload.length c3) rfl
  clear hov b0 g0 g1
  go_wp2_with fail
  refine (hil _).mono ?_
  rintro e W2 ⟨rfl, hw2⟩
  subst hw2
  cases hl : isLF p.space with
  | true =>
    have hnl := hll hl
    go_wp2_with fail
    refine (hle _).mono ?_
    rintro e WX ⟨rfl, gq⟩
    have bX := bW.grown gq
    have gX := gA.trans gq
    have x0 := bX.cell 0 (.int .i64 p.space) rfl
    have x1 := bX.cell 1 (.slice a1 p.dst.length c1) rfl
    have x2 := bX.cell 2 (.slice a2 p.src.length c2) rfl
    have x3 := bX.cell 3 (.int .i64 p.number) rfl
    have x4 := bX.cell 4 (.int .i64 p.width) rfl
    have x5 := bX.cell 5 (.slice a3 p.payload.length c3) rfl
    clear gq gA bW hll
    have bZ := bX.alloc (bts (List.replicate (bytesP p).length 0))
    have z0 := bZ.cell 0 (.int .i64 p.space) rfl
    have z1 := bZ.cell 1 (.slice a1 p.dst.length c1) rfl
    have z2 := bZ.cell 2 (.slice a2 p.src.length c2) rfl
    have z3 := bZ.cell 3 (.int .i64 p.number) rfl
    have z4 := bZ.cell 4 (.int .i64 p.width) rfl
    have z5 := bZ.cell 5 (.slice a3 p.payload.length c3) rfl
    go_wp2_with (at_make; refine wpList_mkR _ rfl _ _ 24 rfl _ _ rfl rfl (hmk _) ?_)
    have hgb : w.heap.size < WX.heap.size := bX.lt
    have gZ := World.grownBy_alloc WX (bts (List.replicate (bytesP p).length 0)) none
    have pp := unhide HP WX.heap.size (WX.alloc (bts (List.replicate (bytesP p).length 0))) (by rw [alloc_size]; omega) ((InX.other hd (Nat.le_of_lt hgb)).grown (gX.trans gZ)) ((InX.other hs (Nat.le_of_lt hgb)).grown (gX.trans gZ)) ((InX.other hy (Nat.le_of_lt hgb)).grown (gX.trans gZ))
    refine pp.mono ?_
    rintro e WY ⟨gp, vs, rfl, hgp, hne, hlen, hrows, gY⟩
    have hB : WY.heap[WX.heap.size]? = some (bts (List.replicate (bytesP p).length 0)) := (gY.block _ (by rw [alloc_size]; omega) (by simp)).trans (heap_alloc_new WX _)
    have hYs : WX.heap.size < WY.heap.size := by have := gY.size; rw [alloc_size] at this; omega
    have gW := (gX.trans gZ).trans gY
    have hvl : ¬ (9223372036854775807 : Int) < (vs.length : Int) := by
      rw [hlen]; unfold partsP; split <;> simp
    clear pp HP hd hs hy gZ gX gY bZ z0 z1 z2 z3 z4 z5 x0 x1 x2 x3 x4 x5 bX hmk hwl hN hle hil
    generalize partsP p = L at *
    generalize hn : (bytesP p).length = n at *
    have hLn : L.flatten.length = n := by rw [hflat]; exact hn
    generalize WX.heap.size = gb at *
    have HF := hide F; have HFl := hide hflat; have HR := hide hrows; have HG := hide gW; have HLn := hide hLn
    clear F hflat hrows gW hn hLn
    go_wp2_with fail
    go_loopw [7, 45] (fun at_ i wr => ∃ (k A : Nat), k ≤ L.length ∧ i = .int .i64 k ∧ A = (L.take k).flatten.length ∧ at_ = .int .i64 A ∧ wr.heap[gb]? = some (bts ((L.take k).flatten ++ List.replicate (n - A) 0)) ∧ WY.grownBy wr (some gb)) (fun _ i _ => L.length - (intOf i).toNat)
    case atStart => exact ⟨0, 0, Nat.zero_le _, rfl, by simp, rfl, by simpa using hB, World.grownBy.refl WY _⟩
    case round =>
      obtain ⟨k, A, hk, rfl, hA, rfl, hw, gw⟩ := hrel
      have hAn : A ≤ n := by rw [hA, ← unhide HLn]; exact flat_le L k
      by_cases hlt : k < L.length
      · obtain ⟨l, hl⟩ : ∃ l, L[k]? = some l := ⟨L[k], by simp [hlt]⟩
        obtain ⟨v, hv⟩ : ∃ v, vs[k]? = some v := ⟨vs[k]'(by omega), by simp⟩
        obtain ⟨a, c, rfl, hr, q1, q2, q3⟩ := unhide HR k v l hv hl
        have e1 := flat_take L k l hl
        have hA2 : A + l.length = (L.take (k + 1)).flatten.length := by rw [e1, List.length_append, hA]
        have hA3 : A + l.length ≤ n := by rw [hA2, ← unhide HLn]; exact flat_le L (k + 1)
        have hcell : wr.cell? ⟨gp, k, none⟩ = some (.slice a l.length c) := by
          have hlt' : gp < WY.heap.size := by
            by_cases c : gp < WY.heap.size
            · exact c
            · have : WY.heap[gp]? = none := by simp; omega
              rw [this] at hgp; simp at hgp
          have := gw.block gp hlt' (fun e => hne (by cases e; rfl))
          simp only [World.cell?, this, hgp]
          simpa using hv
        have hr' : Rd wr a l := hr.farC q1 gw (fun x e hc => ⟨(q3 x e hc).2.1, (q3 x e hc).1⟩)
        have kl1 : (k : Int) < (L.length : Int) := by omega
        have kl2 : (k : Int) < (vs.length : Int) := by omega
        have kl3 : k < vs.length := by omega
        have i1 : (A : Int) ≤ (n : Int) := by omega
        have hn9 : n ≤ 140737488355388 := by omega
        have wA : IntKind.i64.wrap ((A : Int) + (l.length : Int)) = (A : Int) + (l.length : Int) := by rw [IntKind.wrap_i64]; omega
        have hEnd : Hid (∀ w4, w4.heap[gb]? = some (bts ((L.take k).flatten ++ l ++ List.replicate (n - A - l.length) 0)) → wr.grownBy w4 (some gb) → ∃ (k' A' : Nat), k' ≤ L.length ∧ (.int .i64 ((k : Int) + 1) : Value) = .int .i64 k' ∧ A' = (L.take k').flatten.length ∧ (.int .i64 ((A : Int) + (l.length : Int)) : Value) = .int .i64 A' ∧ w4.heap[gb]? = some (bts ((L.take k').flatten ++ List.replicate (n - A') 0)) ∧ WY.grownBy w4 (some gb)) := fun w4 h1 h2 =>
          ⟨k + 1, A + l.length, hlt, by go_num, hA2, by go_num, by rw [e1, ← Nat.sub_sub]; exact h1, gw.trans h2⟩
        by_cases hAe : A = n
        · obtain ⟨w4, hrun, hw4, gw4⟩ := copy_part wr gb (L.take k).flatten l (n - A) hw a c 0 hr' (by omega) (some ⟨gb, 0, none⟩) (by omega)
          have ez : n - A = 0 := by omega
          rw [ez] at hrun
          clear hr hr' q1 q2 q3 hw hA hA2 hl hv e1 gw HR HF HFl HG ez
          subst hAe
          go_wp2_with fail
          exact ⟨unhide hEnd _ hw4 gw4, by simp [intOf]; omega⟩
        · obtain ⟨w4, hrun, hw4, gw4⟩ := copy_part wr gb (L.take k).flatten l (n - A) hw a c (n - A) hr' (by omega) (some ⟨gb, A, none⟩) (fun _ => by rw [hA])
          have ec : ¬ n = A := fun e => hAe e.symm
          clear hr hr' q1 q2 q3 hw hA hA2 hl hv e1 gw HR HF HFl HG
          go_wp2_with fail
          exact ⟨unhide hEnd _ hw4 gw4, by simp [intOf]; omega⟩
      · obtain rfl : k = L.length := by omega
        have kl2 : ¬ (L.length : Int) < (vs.length : Int) := by omega
        have kl3 : ¬ L.length < vs.length := by omega
        rw [List.take_length] at hA hw
        have eA : n - A = 0 := by rw [hA, unhide HLn]; omega
        rw [eA, unhide HFl] at hw
        have hw' : wr.heap[gb]? = some (bts (bytesP p)) := by simpa using hw
        have E := hide (unhide HF wr gb (Nat.le_of_lt hgb) hw' (grown_over (unhide HG) gw (Nat.le_of_lt hgb)))
        clear hw hw' gw hA HF HFl HG HR
        go_wp2_with fail
        go_ret2
        exact unhide E
  | false =>
    have bX := bW
    have gX := gA
    clear hll gA bW
    obtain ⟨WX, hWX⟩ : ∃ WX, WX = W2 := ⟨_, rfl⟩
    subst hWX
    have bZ := bX.alloc (bts (List.replicate (bytesP p).length 0))
    have z0 := bZ.cell 0 (.int .i64 p.space) rfl
    have z1 := bZ.cell 1 (.slice a1 p.dst.length c1) rfl
    have z2 := bZ.cell 2 (.slice a2 p.src.length c2) rfl
    have z3 := bZ.cell 3 (.int .i64 p.number) rfl
    have z4 := bZ.cell 4 (.int .i64 p.width) rfl
    have z5 := bZ.cell 5 (.slice a3 p.payload.length c3) rfl
    go_wp2_with (at_make; refine wpList_mkR _ rfl _ _ 24 rfl _ _ rfl rfl (hmk _) ?_)
    have hgb : w.heap.size < WX.heap.size := bX.lt
    have gZ := World.grownBy_alloc WX (bts (List.replicate (bytesP p).length 0)) none
    have pp := unhide HP WX.heap.size (WX.alloc (bts (List.replicate (bytesP p).length 0))) (by rw [alloc_size]; omega) ((InX.other hd (Nat.le_of_lt hgb)).grown (gX.trans gZ)) ((InX.other hs (Nat.le_of_lt hgb)).grown (gX.trans gZ)) ((InX.other hy (Nat.le_of_lt hgb)).grown (gX.trans gZ))
    refine pp.mono ?_
    rintro e WY ⟨gp, vs, rfl, hgp, hne, hlen, hrows, gY⟩
    have hB : WY.heap[WX.heap.size]? = some (bts (List.replicate (bytesP p).length 0)) := (gY.block _ (by rw [alloc_size]; omega) (by simp)).trans (heap_alloc_new WX _)
    have hYs : WX.heap.size < WY.heap.size := by have := gY.size; rw [alloc_size] at this; omega
    have gW := (gX.trans gZ).trans gY
    have hvl : ¬ (9223372036854775807 : Int) < (vs.length : Int) := by
      rw [hlen]; unfold partsP; split <;> simp
    clear pp HP hd hs hy gZ gX gY bZ z0 z1 z2 z3 z4 z5 x0 x1 x2 x3 x4 x5 bX hmk hwl hN hle hil
    generalize partsP p = L at *
    generalize hn : (bytesP p).length = n at *
    have hLn : L.flatten.length = n := by rw [hflat]; exact hn
    generalize WX.heap.size = gb at *
    have HF := hide F; have HFl := hide hflat; have HR := hide hrows; have HG := hide gW; have HLn := hide hLn
    clear F hflat hrows gW hn hLn
    go_wp2_with fail
    go_loopw [7, 45] (fun at_ i wr => ∃ (k A : Nat), k ≤ L.length ∧ i = .int .i64 k ∧ A = (L.take k).flatten.length ∧ at_ = .int .i64 A ∧ wr.heap[gb]? = some (bts ((L.take k).flatten ++ List.replicate (n - A) 0)) ∧ WY.grownBy wr (some gb)) (fun _ i _ => L.length - (intOf i).toNat)
    case atStart => exact ⟨0, 0, Nat.zero_le _, rfl, by simp, rfl, by simpa using hB, World.grownBy.refl WY _⟩
    case round =>
      obtain ⟨k, A, hk, rfl, hA, rfl, hw, gw⟩ := hrel
      have hAn : A ≤ n := by rw [hA, ← unhide HLn]; exact flat_le L k
      by_cases hlt : k < L.length
      · obtain ⟨l, hl⟩ : ∃ l, L[k]? = some l := ⟨L[k], by simp [hlt]⟩
        obtain ⟨v, hv⟩ : ∃ v, vs[k]? = some v := ⟨vs[k]'(by omega), by simp⟩
        obtain ⟨a, c, rfl, hr, q1, q2, q3⟩ := unhide HR k v l hv hl
        have e1 := flat_take L k l hl
        have hA2 : A + l.length = (L.take (k + 1)).flatten.length := by rw [e1, List.length_append, hA]
        have hA3 : A + l.length ≤ n := by rw [hA2, ← unhide HLn]; exact flat_le L (k + 1)
        have hcell : wr.cell? ⟨gp, k, none⟩ = some (.slice a l.length c) := by
          have hlt' : gp < WY.heap.size := by
            by_cases c : gp < WY.heap.size
            · exact c
            · have : WY.heap[gp]? = none := by simp; omega
              rw [this] at hgp; simp at hgp
          have := gw.block gp hlt' (fun e => hne (by cases e; rfl))
          simp only [World.cell?, this, hgp]
          simpa using hv
        have hr' : Rd wr a l := hr.farC q1 gw (fun x e hc => ⟨(q3 x e hc).2.1, (q3 x e hc).1⟩)
        have kl1 : (k : Int) < (L.length : Int) := by omega
        have kl2 : (k : Int) < (vs.length : Int) := by omega
        have kl3 : k < vs.length := by omega
        have i1 : (A : Int) ≤ (n : Int) := by omega
        have hn9 : n ≤ 140737488355388 := by omega
        have wA : IntKind.i64.wrap ((A : Int) + (l.length : Int)) = (A : Int) + (l.length : Int) := by rw [IntKind.wrap_i64]; omega
        have hEnd : Hid (∀ w4, w4.heap[gb]? = some (bts ((L.take k).flatten ++ l ++ List.replicate (n - A - l.length) 0)) → wr.grownBy w4 (some gb) → ∃ (k' A' : Nat), k' ≤ L.length ∧ (.int .i64 ((k : Int) + 1) : Value) = .int .i64 k' ∧ A' = (L.take k').flatten.length ∧ (.int .i64 ((A : Int) + (l.length : Int)) : Value) = .int .i64 A' ∧ w4.heap[gb]? = some (bts ((L.take k').flatten ++ List.replicate (n - A') 0)) ∧ WY.grownBy w4 (some gb)) := fun w4 h1 h2 =>
          ⟨k + 1, A + l.length, hlt, by go_num, hA2, by go_num, by rw [e1, ← Nat.sub_sub]; exact h1, gw.trans h2⟩
        by_cases hAe : A = n
        · obtain ⟨w4, hrun, hw4, gw4⟩ := copy_part wr gb (L.take k).flatten l (n - A) hw a c 0 hr' (by omega) (some ⟨gb, 0, none⟩) (by omega)
          have ez : n - A = 0 := by omega
          rw [ez] at hrun
          clear hr hr' q1 q2 q3 hw hA hA2 hl hv e1 gw HR HF HFl HG ez
          subst hAe
          go_wp2_with fail
          exact ⟨unhide hEnd _ hw4 gw4, by simp [intOf]; omega⟩
        · obtain ⟨w4, hrun, hw4, gw4⟩ := copy_part wr gb (L.take k).flatten l (n - A) hw a c (n - A) hr' (by omega) (some ⟨gb, A, none⟩) (fun _ => by rw [hA])
          have ec : ¬ n = A := fun e => hAe e.symm
          clear hr hr' q1 q2 q3 hw hA hA2 hl hv e1 gw HR HF HFl HG
          go_wp2_with fail
          exact ⟨unhide hEnd _ hw4 gw4, by simp [intOf]; omega⟩
      · obtain rfl : k = L.length := by omega
        have kl2 : ¬ (L.length : Int) < (vs.length : Int) := by omega
        have kl3 : ¬ L.length < vs.length := by omega
        rw [List.take_length] at hA hw
        have eA : n - A = 0 := by rw [hA, unhide HLn]; omega
        rw [eA, unhide HFl] at hw
        have hw' : wr.heap[gb]? = some (bts (bytesP p)) := by simpa using hw
        have E := hide (unhide HF wr gb (Nat.le_of_lt hgb) hw' (grown_over (unhide HG) gw (Nat.le_of_lt hgb)))
        clear hw hw' gw hA HF HFl HG HR
        go_wp2_with fail
        go_ret2
        exact unhide E

theorem encode_any (p : Pk) (d s y : Value) (w : World) (hd : InB w d p.dst) (hs : InB w s p.src) (hy : InB w y p.payload) (l1 : p.dst.length ≤ 140737488355328) (l2 : p.src.length ≤ 140737488355328) (l3 : p.payload.length ≤ 140737488355328) :
    Calls Try.prog 5 #[p.val d s y] w (EncPost w p) := by
  rcases encE_cases p with ⟨h1, h2⟩ | ⟨h1, h2, -⟩ | ⟨h1, h2, h3, h4⟩
  · exact encode_bad p d s y w hd hs hy l1 l2 l3 (by rw [h1]; exact h2)
  · exact encode_bad p d s y w hd hs hy l1 l2 l3 (by rw [h2]; decide)
  · exact encode_good p h4 d s y w hd hs hy l3 h2 (by rw [← h3, ← h1])

end Go.Proofs.Ytnglgedcpmbbjaa
