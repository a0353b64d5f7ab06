/- The owner: fill, walked. -/
import Derived.Test.YtpkkgmcfificiaaDoorD7I
namespace Go.Proofs.YtpkkgmcfificiaaDoor
open Go.RowKit Go.Shelf Go.Maps
set_option linter.unusedVariables false
set_option maxRecDepth 100000
set_option maxHeartbeats 2000000

/-- What fill leaves. -/
def FillPost (B : Nat) (w : World) (V : Nat → Prop) (O : Nat) (es : List En) (lv hv wv l : Value) (w' : World) : Prop :=
  ∃ (e1 e2 : En) (lv' : Value) (V' : Nat → Prop), OW B w' V' O (es ++ [e1] ++ [e2]) lv' hv wv ∧ VI w' V' ∧ (∀ g, V g → V' g) ∧ (∀ g, V' g → V g ∨ l.ownBlock = some g ∨ w.heap.size ≤ g) ∧ Kp (fun x => x = O ∨ lv.ownBlock = some x ∨ l.ownBlock = some x) w w' ∧ ∀ g, lv'.ownBlock = some g → lv.ownBlock = some g ∨ w.heap.size ≤ g

theorem fill_any {B : Nat} {w : World} {V : Nat → Prop} {O : Nat} {es : List En} {lv hv wv : Value} {a : Option Addr} {n c : Nat} {xs : List Value} (h : OW B w V O es lv hv wv) (vi : VI w V) (hr : w.ownsRow B 3 1 (.slice a n c) n xs) (hV : ∀ g, (Value.slice a n c).ownBlock = some g → ¬ V g) (few : es.length ≤ 10000000) (hn : n ≤ 100000) :
    Calls Tryd.prog 29 #[ptr O, .slice a n c] w fun e w' => e = .returned (.tuple #[]) ∧ FillPost B w V O es lv hv wv (.slice a n c) w' := by
  have hxl : xs.length = n := by have := hr.1; omega
  have S0 : Hid (F1 B w V O es lv hv wv a n c xs (-1 - (es.length : Int)) w 0) := ⟨h, vi, by simpa using hr, hV, Kp.refl _ _⟩
  obtain ⟨al, cl, rfl⟩ : ∃ al cl, lv = .slice al es.length cl := by
    rcases h.row.2 with ⟨e1, e2⟩ | ⟨g, cap, cur, e1, -⟩
    · exact ⟨none, 0, by rw [e1, e2]⟩
    · exact ⟨_, _, e1⟩
  have x0 := h.o.cell 0 (.slice al es.length cl) rfl
  have cs : n ≤ c ∧ c ≤ 9223372036854775807 := by
    rcases hr.2 with ⟨e1, e2⟩ | ⟨g, cap, cur, e1, -, -, q3, q4, -⟩
    · simp only [Value.slice.injEq] at e1; omega
    · simp only [Value.slice.injEq] at e1
      unfold maxLen at q4
      omega
  have lI : ¬ (9223372036854775807 : Int) < (n : Int) := by omega
  have eI : ¬ (9223372036854775807 : Int) < (es.length : Int) := by omega
  clear h vi hr
  generalize hL : es.length = L at *
  have HL := hide hL
  clear hL
  go_enter Tryd.func29, Tryd.ntmps29
  go_wp2_with fail
  generalize hM : (-1 - (L : Int)) = M at *
  clear hM
  go_loopw [5] (fun iv wr => ∃ j : Nat, j ≤ n ∧ iv = .int .i64 j ∧ Hid (F1 B w V O es (.slice al L cl) hv wv a n c xs M wr j)) (fun iv _ => n - (intOf iv).toNat)
  case atStart => exact ⟨0, Nat.zero_le _, rfl, S0⟩
  case round =>
    obtain ⟨j, hj, rfl, H⟩ := hrel
    clear S0 x0
    by_cases hlt : j < n
    · have jN : (j : Int) < (n : Int) := by omega
      obtain ⟨g, rfl⟩ : ∃ g, a = some ⟨g, 0, none⟩ := by
        rcases (unhide H).row.2 with ⟨e1, e2⟩ | ⟨g, cap, cur, e1, -⟩
        · omega
        · simp only [Value.slice.injEq] at e1; exact ⟨g, e1.1⟩
      have th := World.ownsRow.frozenAt (unhide H).row j
      have ce := World.ownsRow.cellAt (unhide H).row j (by omega)
      obtain ⟨u, hu⟩ : ∃ u, (marks j M ++ xs.drop j)[j]? = some u := ⟨(marks j M ++ xs.drop j)[j]'(by simp; omega), List.getElem?_eq_getElem _⟩
      rw [hu] at ce
      have E := hide ((unhide H).store hlt hxl)
      clear H hu
      go_wp2_with fail
      exact ⟨⟨j + 1, by omega, by go_num, E⟩, by simp [intOf]; omega⟩
    · obtain rfl : j = n := by omega
      have jN : ¬ (j : Int) < (j : Int) := by omega
      have hrow := (unhide H).row
      rw [List.drop_eq_nil_of_le (by omega), List.append_nil] at hrow
      have ow := (unhide H).ow
      have x0 := ow.o.cell 0 (.slice al L cl) rfl
      have viR := vi_row hrow
      have e1ok := eok_of hrow (fun g => V g ∨ (Value.slice a j c).ownBlock = some g) (fun g e => .inr e)
      obtain ⟨g1, c1, Wa, r1, bO, hg1, ow1, k1⟩ := ow.push ⟨a, j, c, M⟩ (by have := unhide HL; omega) (fun hh => hh.elim ((unhide H).vi.blk ow.o (by decide)) (fun e => row_blk hrow ow.o (by decide) e)) (fun g hg => hg.elim (fun hv => (unhide H).vi.row ow.row (by decide) hv) (fun e => row_apart hrow ow.row (by decide) e)) (fun g hg => .inl hg) e1ok (fun g hg => hg.elim (fun hv => (unhide H).vi.lt hv) (fun e => (hrow.lt g e).2))
      have hLL := unhide HL
      have HG1 : Hid ((Value.slice al L cl).ownBlock = some g1 ∨ w.heap.size ≤ g1) := hg1.elim .inl (fun e => .inr (Nat.le_trans (unhide H).kp.size e))
      clear hg1
      rw [hLL] at r1 ow1 k1
      have W3 : ∃ X, X = Wa.setCell ⟨O, 0, none⟩ (.slice (some ⟨g1, 0, none⟩) (L + 1) c1) := ⟨_, rfl⟩
      have hOl := ow.o.lt
      have hOr := row_blk hrow ow.o (by decide)
      have hlr : (Value.slice al L cl).ownBlock = none ∨ ∀ g, (Value.slice a j c).ownBlock = some g → (Value.slice al L cl).ownBlock ≠ some g := .inr (fun g e => row_apart hrow ow.row (by decide) e)
      have S2 : Hid (F2 B w V O es (.slice (some ⟨g1, 0, none⟩) (L + 1) c1) hv wv ⟨a, j, c, M⟩ (fun x => x = O ∨ (Value.slice al L cl).ownBlock = some x ∨ (Value.slice a j c).ownBlock = some x) M (.slice a j c) (Wa.setCell ⟨O, 0, none⟩ (.slice (some ⟨g1, 0, none⟩) (L + 1) c1)) j) := by
        have hnl : ∀ g, (Value.slice a j c).ownBlock = some g → ¬ (g = O ∨ (Value.slice al L cl).ownBlock = some g) := fun g e hh => hh.elim (fun e2 => by subst e2; exact hOr e) (fun e2 => row_apart hrow ow.row (by decide) e e2)
        have hnV : ∀ g, V g → ¬ (g = O ∨ (Value.slice al L cl).ownBlock = some g) := fun g hv hh => hh.elim (fun e2 => by subst e2; exact (unhide H).vi.blk ow.o (by decide) hv) (fun e2 => (unhide H).vi.row ow.row (by decide) hv e2)
        refine ⟨⟨ow1.o, ow1.row, fun e he => (ow.ents e he).kept k1.size (fun g hv hl => k1.block g hl (hnV g hv)), ow1.hB⟩, (unhide H).vi.kept (fun g hv hl => k1.block g hl (hnV g hv)), row_keep hrow (fun g e hl => k1.block g hl (hnl g e)), hV, ⟨fun g => (Value.slice a j c).ownBlock = some g, (eok_of hrow _ (fun g e => e)).kept k1.size (fun g e hl => k1.block g hl (hnl g e)), viR.kept (fun g e hl => k1.block g hl (hnl g e)), fun g e => e⟩, fun g e => .inr (.inr e), ⟨Nat.le_refl _, rfl⟩, fun g e => .inl e, ?_⟩
        exact (unhide H).kp.trans (k1.mono (fun x _ e => e.elim .inl (fun e => .inr (.inl e))))
      have y0 := bO.cell 0 (.slice al L cl) rfl
      have th := bO.thaw 0
      have R1 := hide r1
      clear H hrow ow viR e1ok r1 ow1 k1 W3 bO hlr hOr hOl
      go_wp2_with (at_builtin; refine wpList_append_runQ _ rfl _ _ 29 29 rfl _ _ rfl rfl (unhide R1) ?_)
      generalize Wa.setCell ⟨O, 0, none⟩ (.slice (some ⟨g1, 0, none⟩) (L + 1) c1) = W3 at *
      clear R1 y0 th x0
      go_loopw [1, 6] (fun lq iv wr => ∃ (l2 : Value) (i : Nat), i ≤ 64 ∧ Hid (l2 = lq) ∧ iv = .int .i64 i ∧ Hid (F2 B w V O es (.slice (some ⟨g1, 0, none⟩) (L + 1) c1) hv wv ⟨a, j, c, M⟩ (fun x => x = O ∨ (Value.slice al L cl).ownBlock = some x ∨ (Value.slice a j c).ownBlock = some x) M l2 wr (j + i))) (fun _ iv _ => 64 - (intOf iv).toNat)
      case atStart => exact ⟨_, 0, by omega, rfl, rfl, S2⟩
      case round =>
        obtain ⟨l2, i, hi, el, rfl, H⟩ := hrel
        have el := unhide el
        subst el
        clear S2
        by_cases hi6 : i < 64
        · have iN : (i : Int) < 64 := by omega
          obtain ⟨g', c', w', hrun, f2⟩ := (unhide H).push (by omega)
          have R1 := hide hrun; have E := hide f2
          clear H hrun f2
          go_wp2_with (at_builtin; refine wpList_append_runQ _ rfl _ _ 30 30 rfl _ _ rfl rfl (unhide R1) ?_)
          exact ⟨⟨_, i + 1, by omega, rfl, by go_num, E⟩, by simp [intOf]; omega⟩
        · obtain rfl : i = 64 := by omega
          have iN : ¬ ((64 : Nat) : Int) < 64 := by omega
          have f := unhide H
          obtain ⟨V1, ek1, vi1, hK1⟩ := f.ex1
          obtain ⟨a2, c2, rfl⟩ : ∃ a2 c2, l2 = .slice a2 (j + 64) c2 := by
            rcases f.row.2 with ⟨e1, e2⟩ | ⟨g, cap, cur, e1, -⟩
            · omega
            · exact ⟨_, _, e1⟩
          have ow : OW B wr (fun g => V g ∨ V1 g ∨ (Value.slice a2 (j + 64) c2).ownBlock = some g) O (es ++ [⟨a, j, c, M⟩]) (.slice (some ⟨g1, 0, none⟩) (L + 1) c1) hv wv := ⟨f.ow.o, f.ow.row, fun e he => by
            rcases List.mem_append.1 he with he | he
            · exact (f.ow.ents e he).mono (fun g hg => .inl hg)
            · simp only [List.mem_singleton] at he; subst he; exact ek1.mono (fun g hg => .inr (.inl hg)), f.ow.hB⟩
          have viA : VI wr (fun g => V g ∨ V1 g ∨ (Value.slice a2 (j + 64) c2).ownBlock = some g) := f.vi.or (vi1.or (vi_row f.row))
          have y0 := ow.o.cell 0 (.slice (some ⟨g1, 0, none⟩) (L + 1) c1) rfl
          obtain ⟨g2, c3, Wb, r2, bO, hg2, ow2, k2⟩ := ow.push ⟨a2, j + 64, c2, M⟩ (by have := unhide HL; simp; omega) (viA.blk ow.o (by decide)) (fun g hg => viA.row ow.row (by decide) hg) (fun g hg => hg) (eok_of f.row _ (fun g e => .inr (.inr e))) (fun g hg => viA.lt hg)
          have eL : (es ++ [(⟨a, j, c, M⟩ : En)]).length = L + 1 := by have := unhide HL; simp; omega
          rw [eL] at r2 ow2 k2
          have z0 := bO.cell 0 (.slice (some ⟨g1, 0, none⟩) (L + 1) c1) rfl
          have th := bO.thaw 0
          have szw := f.kp.size
          have E : Hid (FillPost B w V O es (.slice al L cl) hv wv (.slice a j c) (Wb.setCell ⟨O, 0, none⟩ (.slice (some ⟨g2, 0, none⟩) (L + 1 + 1) c3))) := by
            refine ⟨⟨a, j, c, M⟩, ⟨a2, j + 64, c2, M⟩, _, _, ow2, viA.kept (fun g hg hl => k2.block g hl (fun hh => hh.elim (fun e => by subst e; exact viA.blk ow.o (by decide) hg) (fun e => viA.row ow.row (by decide) hg e))), fun g hg => .inl hg, fun g hg => ?_, ?_, fun g hg => ?_⟩
            · rcases hg with hg | hg | hg
              · exact .inl hg
              · exact .inr (.inl (hK1 g hg))
              · exact .inr (f.kb g hg)
            · refine ⟨k2.os.trans f.kp.os, k2.tape.trans f.kp.tape, k2.output.trans f.kp.output, Nat.le_trans f.kp.size k2.size, fun x hx hn => ?_⟩
              refine (k2.block x (by omega) (fun hh => ?_)).trans (f.kp.block x hx hn)
              rcases hh with rfl | hh
              · exact hn (.inl rfl)
              · obtain rfl : g1 = x := by cases hh; rfl
                rcases (unhide HG1) with h1 | h1
                · exact hn (.inr (.inl h1))
                · omega
            · obtain rfl : g2 = g := by cases hg; rfl
              rcases hg2 with h2 | h2
              · obtain rfl : g1 = g2 := by cases h2; rfl
                rcases (unhide HG1) with h1 | h1
                · exact .inl h1
                · exact .inr (by omega)
              · exact .inr (by omega)
          have R2 := hide r2
          clear H f ow viA ow2 k2 r2 bO ek1 vi1 hK1 eL szw
          go_wp2_with (at_builtin; refine wpList_append_runQ _ rfl _ _ 29 29 rfl _ _ rfl rfl (unhide R2) ?_)
          refine bodyPost_end (results_none rfl _ _ _) rfl ?_
          exact ⟨rfl, unhide E⟩
end Go.Proofs.YtpkkgmcfificiaaDoor
