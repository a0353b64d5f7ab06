/- Encode, Size. -/
import Derived.Test.YtggjeamondampaaFX5
namespace Go.Proofs.Ytggjeamondampaa
open Go.RowKit
set_option linter.unusedVariables false
set_option maxRecDepth 100000
set_option maxHeartbeats 4000000

theorem OwnB.keepN {base : Nat} {w w' : World} {v : Value} {T : List Int} (h : OwnB base w v T) (g : w.grownBy w' none) : OwnB base w' v T := by
  refine ⟨h.1, ?_⟩
  rcases h.2 with h2 | ⟨b, c, cur, e1, q1, q2, q3⟩
  · exact .inl h2
  · exact .inr ⟨b, c, cur, e1, q1, (g.block b (Array.getElem?_eq_some_iff.1 q2).1 (by simp)).trans q2, q3⟩
theorem OwnB.ownN {base : Nat} {w : World} {v : Value} {T : List Int} (h : OwnB base w v T) : ∀ k, v.ownBlock = some k → base ≤ k := fun k hk => by
  rcases h.2 with ⟨rfl, -⟩ | ⟨b, c, cur, rfl, q1, -⟩
  · cases hk
  · injection hk with hk; exact hk ▸ q1
/-- More bytes, from wherever they lie. -/
theorem app_u8 {w0 W : World} {v : Value} {T xs : List Int} (ad : Addr) (n c : Nat) (h : OwnB w0.heap.size W v T) (hg : w0.grownBy W none) (hn : xs.length = n) (hpos : 0 < n) (hsrc : ∀ j x, xs[j]? = some x → W.cell? (ad.add j) = some (.int .u8 x)) (hb : T.length + n ≤ 140737488355328) :
    ∃ a' c' W', (∀ ty, (Builtin.append_ #[22, 22] ty #[v, .slice (some ad) n c]).run Try.prog W = .ok (.slice a' (T.length + n) c') W') ∧ OwnB w0.heap.size W' (.slice a' (T.length + n) c') (T ++ xs) ∧ w0.grownBy W' none := by
  subst hn
  obtain ⟨i, hi, hz0, hz1, hz2⟩ := info_parts Try.infoB
  obtain ⟨v', W', hr, ho, hgr, hnil⟩ := run_append_own (P := Try.prog) W w0.heap.size 22 22 5 i _ 1 1 Try.underlying22 hi hz0 hz1 hz2 rfl (by decide) v T.length (T.map (Value.int .u8)) h ad xs.length c (xs.map (Value.int .u8)) (by simp) (fun j u hj => by
    rw [List.getElem?_map] at hj
    cases hx : xs[j]? with
    | none => rw [hx] at hj; simp at hj
    | some x => rw [hx] at hj; simp at hj; rw [← hj]; exact hsrc j x hx) (by simp [Value.oneCell']) (by unfold maxLen; omega) (by omega) hg.size
  have e : T.map (Value.int .u8) ++ xs.map (Value.int .u8) = (T ++ xs).map (Value.int .u8) := by simp
  have e2 : (T ++ xs).length = T.length + xs.length := by simp
  rw [e] at ho
  have ho' : OwnB w0.heap.size W' v' (T ++ xs) := by unfold OwnB; rw [e2]; exact ho
  obtain ⟨a', c', rfl⟩ : ∃ a' c', v' = .slice a' (T.length + xs.length) c' := by
    rcases ho.2 with ⟨e1, e2⟩ | ⟨g', c', cur, e1, -⟩
    · omega
    · exact ⟨_, _, e1⟩
  exact ⟨a', c', W', fun _ => hr, ho', grown_own hg hgr h.ownN⟩
/-- ... and whatever can be read. -/
theorem app_rd {w0 W : World} {v : Value} {T e : List Int} {a : Option Addr} (c : Nat) (h : OwnB w0.heap.size W v T) (hg : w0.grownBy W none) (hr : Rd W a e) (hb : T.length + e.length ≤ 140737488355328) :
    ∃ a' c' W', (∀ ty, (Builtin.append_ #[22, 22] ty #[v, .slice a e.length c]).run Try.prog W = .ok (.slice a' (T.length + e.length) c') W') ∧ OwnB w0.heap.size W' (.slice a' (T.length + e.length) c') (T ++ e) ∧ w0.grownBy W' none := by
  by_cases he : e = []
  · subst he
    obtain ⟨inf, hi0, hz0, hz1, hz2⟩ := info_parts Try.infoB
    rcases h.2 with ⟨h1, h2⟩ | ⟨g, cap, cur, e1, -, -, hc, hx, -⟩
    · have h0 : T = [] := List.length_eq_zero_iff.1 h2
      subst h0 h1
      refine ⟨none, 0, W, fun ty => ?_, by simpa using h, hg⟩
      cases a <;> simp [Builtin.append_, run_underlying Try.underlying22, sizeOf, typeInfo, hi0, Builtin.lenOf, Builtin.firstCells, loadCells, loadCellsFrom]
    · subst e1
      refine ⟨_, cap, W, fun ty => ?_, by simpa using h, hg⟩
      cases a <;> simp [Builtin.append_, run_underlying Try.underlying22, sizeOf, typeInfo, hi0, Builtin.lenOf, Builtin.firstCells, loadCells, loadCellsFrom, hc, storeCells]
  · obtain ⟨b, off, rfl, hc⟩ := hr.2 he
    exact app_u8 ⟨b, off, none⟩ e.length c h hg rfl (List.length_pos_iff.2 he) (fun j x hj => by
      have hlt := (List.getElem?_eq_some_iff.1 hj).1
      have hadd : (⟨b, off, none⟩ : Addr).add j = ⟨b, off + j, none⟩ := by simp [Addr.add]
      rw [hadd, hc j hlt]
      simp [List.getD, hj]) hb
theorem mk_bytes0 (cap : Nat) (h : cap ≤ 281474976710656) (W : World) : ∃ cur : Array Value, (Instr.makeSlice 22 (.int .i64 0) (.int .i64 (cap : Int))).run Try.prog W = .ok (.slice (some ⟨W.heap.size, 0, none⟩) 0 cap) (W.alloc (.cells cur 5)) ∧ OwnB W.heap.size (W.alloc (.cells cur 5)) (.slice (some ⟨W.heap.size, 0, none⟩) 0 cap) [] := by
  obtain ⟨i, hi, hz, hs, hb⟩ := info_parts Try.infoB
  have := run_make (P := Try.prog) W 22 5 i (.int .u8 0) Try.underlying22 hi hz .i64 .i64 0 cap (by omega) (by omega) (by rw [hb]; omega) (by omega)
  refine ⟨_, this, rfl, .inr ⟨W.heap.size, cap, _, rfl, Nat.le_refl _, heap_alloc_new W _, Nat.zero_le _, by unfold maxLen; omega, ?_, by simp⟩⟩
  simp [madeCells, hs]

theorem encL_step (L : List Int) (k : Nat) (h : k < L.length) : encL (L.take (k + 1)) = encL (L.take k) ++ encN (L.getD k 0) := by
  rw [take_snoc L k h]
  simp [encL]
theorem encL_append (A B : List Int) : encL (A ++ B) = encL A ++ encL B := by simp [encL]

/-- What Encode answers. -/
theorem encode_any (f : Fr) (d r : Value) (w : World) (hF : FrIn w f d r) (hD : TS w d f.data) (hk : -9223372036854775808 ≤ f.kind ∧ f.kind ≤ 9223372036854775807) (hrl : f.runs.length * 16 ≤ 140737488351232) (hdl : f.data.length ≤ 140737488351232) :
    Calls Try.prog 12 #[f.val d r] w fun e w' => ∃ v, e = .returned (.tuple #[v, .int .i64 (encF f).2]) ∧ OwnB w.heap.size w' v (encF f).1 ∧ w.grownBy w' none := by
  have hml : (f.runs.length : Int) ≤ MAXN := by unfold MAXN; omega
  have htl := hide (fun W (g : w.grownBy W none) => tell_any f d r W (hF.keep g) (hD.keep g) hk hrl)
  obtain ⟨C, hC⟩ : ∃ C, C = f.cs d r := ⟨_, rfl⟩
  have C17 : C.size = 17 := by rw [hC]; rfl
  have iC : (Try.prog.info? 26).map (·.size) = some C.size := by rw [C17]; exact Try.size26
  have e1 : f.val d r = .agg C := by rw [hC]
  rw [e1] at htl ⊢
  have B0 := Blk.new w C 26
  have g0 := World.grownBy_alloc w (.cells C 26) none
  have HB := hide B0
  have hte := unhide htl _ g0
  unfold TellPost at hte
  clear hF hD hk htl C17 e1 hC B0
  cases ht : tellF f with
  | inr x =>
    have hE : encF f = ([], x) := by unfold encF; rw [ht]
    rw [ht] at hte
    simp only at hte
    rw [hE]
    have hx := tell_err ht
    clear ht hE
    rcases hx with rfl | rfl
    all_goals
      go_enter Try.func12, Try.ntmps12
      go_wp2_with (first | (refine wpList_load_row rfl _ _ rfl w.heap.size rfl 26 C (0, 0) _ (unhide HB) Try.underlying26 rfl iC ?_) | (go_at_call 50; refine hte.mono ?_; rintro e W1 ⟨rfl, g1⟩))
      go_ret2
      exact ⟨_, rfl, World.ownsRow_nil _ _ _ _, g0.trans g1⟩
  | inl nr =>
    obtain ⟨n, rs⟩ := nr
    have hE : encF f = (encL n ++ rs, 0) := by unfold encF; rw [ht]
    rw [ht] at hte
    simp only at hte
    obtain ⟨rng, nlen, rsl, one⟩ := tell_ok ht hml
    have tot : (encL n).length + rs.length ≤ 140737488355328 ∧ n.length ≤ 100000000000000000 ∧ (encL n).length ≤ 140737488355328 := by
      have := encL_le n
      rcases one with e | e
      · rw [e] at nlen; simp at nlen
        rcases rsl with e2 | ⟨e2, -⟩
        · rw [e2]; omega
        · omega
      · rcases rsl with e2 | ⟨e2, e3⟩
        · rw [e2, e]; simp; omega
        · rw [e3] at nlen; simp at nlen; omega
    rw [hE]
    have HR := hide rng
    have HT := hide tot
    clear ht hE rng nlen rsl one tot hml hrl hdl
    go_enter Try.func12, Try.ntmps12
    go_upto_region 4 with (first | (refine wpList_load_row rfl _ _ rfl w.heap.size rfl 26 C (0, 0) _ (unhide HB) Try.underlying26 rfl iC ?_) | (go_at_call 50; refine hte.mono ?_; rintro e W1 ⟨v1, s1, rfl, o1, t1, g1⟩; obtain ⟨va, vc, rfl, vl1, vl2, vrd⟩ := o1.at; obtain ⟨sa, sc, rfl, srd, sl1, sl2⟩ := t1.ex))
    have hlen := length_any va sa n n.length vc rs.length sc W1 rfl vrd (unhide HR) ⟨vl1, vl2⟩ (unhide HT).2.1 (by have := (unhide HT).1; omega)
    obtain ⟨cap, hcap⟩ : ∃ cap, cap = (encL n).length + rs.length := ⟨_, rfl⟩
    rw [← hcap] at hlen
    obtain ⟨cur, hmk, oB⟩ := mk_bytes0 cap (by have := (unhide HT).1; omega) W1
    have gM := World.grownBy_alloc W1 (.cells cur 5) none
    have H0 := hide (And.intro oB gM)
    have HW1 := hide (And.intro vrd (And.intro srd (g0.trans g1)))
    obtain ⟨nn, hnn⟩ : ∃ nn, nn = n.length := ⟨_, rfl⟩
    obtain ⟨mm, hmm⟩ : ∃ mm, mm = rs.length := ⟨_, rfl⟩
    rw [← hnn, ← hmm] at hlen ⊢
    rw [← hnn] at vl1
    have HN := hide hnn
    have HMM := hide hmm
    clear hnn hmm hcap oB gM vrd srd hte HB o1 t1 g0 g1
    go_wp2_with (first | (go_at_call 51; refine hlen.mono ?_; rintro e W9 ⟨rfl, hw⟩; replace hw := hw.symm; subst hw) | (refine wpList_make_run _ rfl 22 (Operand.const (.int .i64 0)) (Operand.tmp 23) rfl (.int .i64 0) (.int .i64 (cap : Int)) rfl rfl hmk ?_))
    go_loopw [7, 27] (fun b i wr => ∃ k : Nat, k ≤ nn ∧ i = .int .i64 k ∧ Hid (OwnB W1.heap.size wr b (encL (n.take k)) ∧ W1.grownBy wr none)) (fun _ i _ => nn - (intOf i).toNat)
    case atStart => exact ⟨0, Nat.zero_le _, rfl, unhide H0⟩
    case round =>
      obtain ⟨k, hk, rfl, H⟩ := hrel
      clear H0 hmk hlen
      by_cases hlt : k < nn
      · have hkL : k < n.length := by rw [← unhide HN]; exact hlt
        have kI : (k : Int) < (nn : Int) := by omega
        obtain ⟨gb, off, rfl, hcs⟩ := (unhide HW1).1 (fun e => by rw [e] at hkL; simp at hkL)
        have cv := cell_grown (hcs k hkL) (unhide H).2
        have hv := unhide HR (n.getD k 0) (by simp [List.getD, hkL])
        have st := encL_step n k hkL
        have stl : (encL (n.take (k + 1))).length ≤ (encL n).length := by
          have e : n = n.take (k + 1) ++ n.drop (k + 1) := (List.take_append_drop _ _).symm
          have e2 : (encL (n.take (k + 1) ++ n.drop (k + 1))).length = (encL (n.take (k + 1))).length + (encL (n.drop (k + 1))).length := by rw [encL_append, List.length_append]
          rw [← e] at e2
          omega
        generalize n.getD k 0 = x at *
        have hwv : IntKind.u64.wrap x = x := by rw [IntKind.wrap_u64]; unfold MAXN at hv; omega
        have hp := put_ok x wr hv.1 (by unfold MAXN at hv; omega)
        have z1 : 0 < sizeF x := by unfold MAXN at hv; unfold sizeF; (repeat' split) <;> omega
        have hbl := heap_alloc_new wr (bts (layF x (sizeF x)))
        have gA := World.grownBy_alloc wr (bts (layF x (sizeF x))) none
        obtain ⟨bb, bc, rfl⟩ := (unhide H).1.shape
        have ll : (encL (n.take k)).length + sizeF x ≤ 140737488355328 := by
          have := (unhide HT).2.2
          rw [st, List.length_append, encN_length] at stl
          omega
        obtain ⟨a4, c4', W4, hap, o4, g4⟩ := app_u8 (xs := layF x (sizeF x)) ⟨wr.heap.size, 0, none⟩ (sizeF x) (sizeF x) ((unhide H).1.keepN gA) ((unhide H).2.trans gA) (layF_length _ _) z1 (fun j y hj => by
          rw [addr_add]
          unfold World.cell?
          rw [hbl]
          simp [bts, hj]) ll
        have E : Hid (OwnB W1.heap.size W4 (.slice a4 ((encL (n.take k)).length + sizeF x) c4') (encL (n.take (k + 1))) ∧ W1.grownBy W4 none) := ⟨by rw [st]; exact o4, g4⟩
        have HL := hide hlt
        generalize (encL (n.take k)).length = m0 at *
        generalize sizeF x = z at *
        clear H hcs hv st stl hbl gA o4 g4 ll hkL hlt hk z1
        go_wp2_with (first | (go_at_call 52; refine hp.mono ?_; rintro e W9 ⟨rfl, hw⟩; subst hw) | (at_builtin; refine wpList_append_run _ rfl (Operand.tmp 37) (Operand.tmp 38) 22 22 rfl (.slice bb m0 bc) (.slice (some ⟨wr.heap.size, 0, none⟩) z z) rfl rfl (hap 22) ?_))
        exact ⟨⟨k + 1, unhide HL, by go_num, unhide E⟩, by simp [intOf]; have := unhide HL; omega⟩
      · obtain rfl : k = nn := by omega
        have kI : ¬ (k : Int) < (k : Int) := by omega
        have eT : n.take k = n := by rw [unhide HN]; simp
        rw [eT] at H
        obtain ⟨bb, bc, rfl⟩ := (unhide H).1.shape
        obtain ⟨a4, c4', W4, hap, o4, g4⟩ := app_rd sc (unhide H).1 (unhide H).2 ((unhide HW1).2.1.grow (unhide H).2) (unhide HT).1
        rw [← unhide HMM] at hap o4
        have E : Hid (OwnB w.heap.size W4 (.slice a4 ((encL n).length + mm) c4') (encL n ++ rs) ∧ w.grownBy W4 none) := ⟨o4.mono (unhide HW1).2.2.size, (unhide HW1).2.2.trans g4⟩
        generalize (encL n).length = m0 at *
        clear H o4 g4 eT
        go_wp2_with (at_builtin; refine wpList_append_run _ rfl (Operand.tmp 41) (Operand.tmp 42) 22 22 rfl (.slice bb m0 bc) (.slice sa mm sc) rfl rfl (hap 22) ?_)
        go_ret2
        exact ⟨_, rfl, (unhide E).1, (unhide E).2⟩
end Go.Proofs.Ytggjeamondampaa
