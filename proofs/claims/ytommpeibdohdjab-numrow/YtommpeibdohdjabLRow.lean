import Derived.Test.YtommpeibdohdjabVD
namespace Go.Proofs.Ytommpeibdohdjab
open Go.RowKit Go.Shelf
set_option linter.unusedVariables false
attribute [local go_sem] Oper.semAt_some

theorem good_snoc {cs : List (Int × Nat)} (h : Good cs) {v : Int} {n : Nat} (h0 : 0 ≤ v) (h1 : Fits v n) : Good (cs ++ [(v, n)]) := by
  intro c hc
  simp only [List.mem_append, List.mem_singleton] at hc
  rcases hc with hc | rfl
  · exact h c hc
  · exact ⟨h0, h1⟩

theorem putAs_bad (v n : Int) (w : World) (h0 : 0 ≤ v) (h1 : v ≤ 4611686018427387903) (h : ¬ (isSize n ∧ (sizeF v : Int) ≤ n)) :
    Calls Try.prog 8 #[.int .u64 v, .int .i64 n] w fun e w' => ∃ c : Int, (c = 1 ∨ c = 10) ∧ e = .returned (.tuple #[.slice none 0 0, .int .i64 c]) ∧ w' = w := by
  by_cases hs : isSize n
  · exact (putAs_no v n w h0 (by omega) hs (.inr (by have : ¬ (sizeF v : Int) ≤ n := fun x => h ⟨hs, x⟩; omega))).mono fun e w' ⟨he, hw⟩ => ⟨10, .inr rfl, he, hw⟩
  · exact (putAs_arg v n w hs).mono fun e w' ⟨he, hw⟩ => ⟨1, .inl rfl, he, hw⟩

theorem cell_alloc2 {w : World} {a : Addr} {v : Value} (h : w.cell? a = some v) (o : Obj) : (w.alloc o).cell? a = some v := by
  rw [World.cell?_of_block (Below.heap_alloc w o _ (World.block_lt_of_cell? w _ h))]; exact h
theorem beq_zero_ne {c : Int} (h : c ≠ 0) : (c == 0) = false := by simp [h]

theorem IRow.belowN {w w' : World} {B n₀ : Nat} {e : TypeId} {k : IntKind} {v : Value} {l : List Int} (h : IRow w B e k v l) (hlt : ∀ g, v.ownBlock = some g → g < n₀) (hb : Below n₀ w w') : IRow w' B e k v l := by
  refine ⟨h.1, ?_⟩
  rcases h.2 with h2 | ⟨g, cap, cur, hv, hg, hh, r⟩
  · exact .inl h2
  · exact .inr ⟨g, cap, cur, hv, hg, by rw [hb.block g (hlt g (by rw [hv]; rfl))]; exact hh, r⟩

/-- Integers that a slice reads as. -/
def RdI (k : IntKind) (w : World) (a : Option Addr) (l : List Int) : Prop := l ≠ [] → ∃ b off, a = some ⟨b, off, none⟩ ∧ ∀ i, i < l.length → w.cell? ⟨b, off + i, none⟩ = some (.int k (l.getD i 0))
theorem RdI.at {k : IntKind} {w : World} {a : Option Addr} {l : List Int} (h : RdI k w a l) {i : Nat} (hi : i < l.length) : ∃ b off, a = some ⟨b, off, none⟩ ∧ b < w.heap.size ∧ w.cell? ⟨b, off + i, none⟩ = some (.int k (l.getD i 0)) := by
  obtain ⟨b, off, e, hc⟩ := h (by intro e; simp [e] at hi)
  exact ⟨b, off, e, World.block_lt_of_cell? w _ (hc i hi), hc i hi⟩

set_option maxRecDepth 100000 in
set_option maxHeartbeats 1600000 in
theorem row_in (a d : Option Addr) (l wd : List Int) (ca cd : Nat) (w : World) (hl : RdI .u64 w a l) (hd : RdI .i64 w d wd) (hlb : ∀ x ∈ l, 0 ≤ x ∧ x < 18446744073709551616) (h47 : l.length * 8 ≤ 140737488351232) (hwd : wd.length ≤ 140737488351232) :
    CallsIn Fence.wide 4 Try.prog 4 #[.slice a l.length ca, .slice d wd.length cd] w fun e w' => e = .returned (.bool true) ∧ Below w.heap.size w w' := by
  have hwide : ∀ f, Fence.wide.fn f := fun _ => trivial
  have HL := hide hl; have HD := hide hd; have HLB := hide hlb
  clear hl hd hlb
  refine callsIn_of_wp_marks Try.func4 rfl trivial ?_ rfl
  simp only [Try.ntmps4, List.size_toArray, List.length_cons, List.length_nil, Nat.reduceAdd, Nat.reduceSub, Array.replicate_succ, Array.replicate_zero, List.push_toArray, List.append_toArray, List.nil_append, List.cons_append]
  gi_wp2_with fail
  refine (callsIn_wide.2 (awake_any _)).mono ?_
  rintro e W1 ⟨rfl, b1⟩
  rw [show ((w.alloc (.cells #[.slice a l.length ca] 29)).alloc (.cells #[.bool false] 4)).heap.size = w.heap.size + 2 by simp] at b1
  have bx1 : ((w.alloc (.cells #[.slice a l.length ca] 29)).alloc (.cells #[.bool false] 4)).heap[w.heap.size]? = some (.cells #[.slice a l.length ca] 29 (0, 0)) := by rw [Below.heap_alloc _ _ _ (by simp)]; exact heap_alloc_new w _
  have bx2 : ((w.alloc (.cells #[.slice a l.length ca] 29)).alloc (.cells #[.bool false] 4)).heap[w.heap.size + 1]? = some (.cells #[.bool false] 4 (0, 0)) := by
    have := heap_alloc_new (w.alloc (.cells #[.slice a l.length ca] 29)) (.cells #[.bool false] 4); simpa using this
  have b0 : Below w.heap.size w ((w.alloc (.cells #[.slice a l.length ca] 29)).alloc (.cells #[.bool false] 4)) := ((Below.refl _ _).alloc (Nat.le_refl _) _).alloc (by simp) _
  have hs0 : ((w.alloc (.cells #[.slice a l.length ca] 29)).alloc (.cells #[.bool false] 4)).heap.size = w.heap.size + 2 := by simp
  generalize (w.alloc (.cells #[.slice a l.length ca] 29)).alloc (.cells #[.bool false] 4) = W0 at b1 bx1 bx2 b0 hs0
  have hs1 : w.heap.size + 2 ≤ W1.heap.size := by have := b1.size; omega
  have RS0 := hide (show RS W0 (w.heap.size + 2) W1 (.slice none 0 0) (.slice none 0 0) (.slice none 0 0) [] [] [] 0 [] from ⟨World.ownsRow_nil _ _ _ _, World.ownsRow_nil _ _ _ _, World.ownsRow_nil _ _ _ _, b1, hs1, .inl rfl⟩)
  have BX1 := hide bx1; have BX2 := hide bx2; have B0 := hide b0; have HS0 := hide hs0
  clear b1 bx1 bx2 b0 hs0 hs1
  gi_wp2_with fail
  gi_loopw [6, 7, 8, 9] (fun bv pv av i wr => ∃ cs : List (Int × Nat), cs.length ≤ l.length ∧ i = .int .i64 cs.length ∧ Good cs ∧ RS W0 (w.heap.size + 2) wr bv pv av (bytesOf cs) ((pairs cs 0).map Prod.fst) ((pairs cs 0).map Prod.snd) 0 []) (fun _ _ _ i _ => l.length - (intOf i).toNat)
  case atStart => exact ⟨[], Nat.zero_le _, rfl, by intro c hc; simp at hc, unhide RS0⟩
  case round =>
    clear RS0
    obtain ⟨cs, hcs, rfl, hgood, rs⟩ := hrel
    have HG := hide hgood
    have hbox : wr.cell? ⟨w.heap.size, 0, none⟩ = some (.slice a l.length ca) := by
      have : wr.heap[w.heap.size]? = _ := (rs.bel.block w.heap.size (by omega)).trans (unhide BX1)
      simp [World.cell?, this]
    have HLP : Hid (((pairs cs 0).map Prod.fst).length = cs.length) := by show _ = _; rw [List.length_map, pairs_length]
    have HLA : Hid (((pairs cs 0).map Prod.snd).length = cs.length) := by show _ = _; rw [List.length_map, pairs_length]
    have HLBY := hide (bytesOf_length cs hgood)
    obtain ⟨xb, cb, eb, hcb, hcb2, -⟩ := rs.rb.shape
    subst eb
    unfold maxLen at hcb2
    have RSC0 := hide rs
    by_cases hlt : cs.length < l.length
    · obtain ⟨b, off, ea, hbl, hc⟩ := (unhide HL).at hlt
      subst ea
      have hce : wr.cell? ⟨b, off + cs.length, none⟩ = some (.int .u64 (l.getD cs.length 0)) := by
        rw [(rs.bel.mono (show w.heap.size ≤ _ by omega)).cell (p := ⟨b, off + cs.length, none⟩) hbl, (unhide B0).cell (p := ⟨b, off + cs.length, none⟩) hbl]; exact hc
      have hzb := (unhide HLB) (l.getD cs.length 0) (by simp [List.getD, hlt])
      have hV0 : 0 ≤ l.getD cs.length 0 % 4611686018427387904 := by omega
      have hV1 : l.getD cs.length 0 % 4611686018427387904 ≤ 4611686018427387903 := by omega
      generalize hzz : l.getD cs.length 0 = z at hce hzb hV0 hV1
      generalize hV : z % 4611686018427387904 = V at hV0 hV1
      have HFS := hide (fits_size V hV1)
      have hsz8 : 1 ≤ sizeF V ∧ sizeF V ≤ 8 := by have := fits_size V hV1; unfold Fits at this; omega
      clear rs hgood hc hzz
      by_cases hwl : cs.length < wd.length
      · obtain ⟨b2, off2, ed, hbl2, hc2⟩ := (unhide HD).at hwl
        subst ed
        have hcd : wr.cell? ⟨b2, off2 + cs.length, none⟩ = some (.int .i64 (wd.getD cs.length 0)) := by
          rw [((unhide RSC0).bel.mono (show w.heap.size ≤ _ by omega)).cell (p := ⟨b2, off2 + cs.length, none⟩) hbl2, (unhide B0).cell (p := ⟨b2, off2 + cs.length, none⟩) hbl2]; exact hc2
        clear hc2
        generalize wd.getD cs.length 0 = y at hcd
        have HCD0 := hide hcd
        by_cases hy : isSize y ∧ (sizeF V : Int) ≤ y
        · obtain ⟨hy1, hy2⟩ := hy
          obtain ⟨n, rfl⟩ := Int.eq_ofNat_of_zero_le (show 0 ≤ y by unfold isSize at hy1; omega)
          have hfn := fits_of V n hy1 hy2 hV1
          rw [Int.toNat_natCast] at hfn
          have HFIT := hide hfn; have HY1 := hide hy1
          have hn8 : 1 ≤ n ∧ n ≤ 8 := by unfold Fits at hfn; omega
          clear hfn hy1
          gi_wp2_with (first
            | (gi_at_call 7; refine (callsIn_wide.2 (put_ok V _ hV0 hV1)).mono ?_; rintro e w' ⟨rfl, rfl⟩; have RSC1 := hide ((unhide RSC0).newc (layF V (sizeF V))); generalize wr.heap.size = g1 at RSC1 ⊢; have hcw := cell_alloc2 hcd (bts (layF V (sizeF V))); generalize wr.alloc (bts (layF V (sizeF V))) = Wc at RSC1 hcw ⊢)
            | (gi_at_call 8; have c4 := putAs_ok V n Wc hV0 hV1 (unhide HY1) hy2; rw [Int.toNat_natCast] at c4; refine (callsIn_wide.2 c4).mono ?_; rintro e w' ⟨rfl, rfl⟩; have RSC := hide ((unhide RSC1).newc (layF V n)); generalize Wc.heap.size = g2 at RSC ⊢; generalize Wc.alloc (bts (layF V n)) = Wd at RSC ⊢; clear c4)
            | (gi_at_builtin; refine wpListIn_appI _ rfl (.tmp 55) (.tmp 58) 30 3 .i64 8 rfl Try.underlying30 Try.info3 (w.heap.size + 2) _ _ (unhide RSC).rp rfl ((bytesOf cs).length : Int) _ rfl (by simp) (by have := unhide HLP; omega) (by have := unhide HLP; unfold maxLen; omega) (unhide RSC).low ?_; intro pv' W3 hr3 hm3; have RSP := hide ((unhide RSC).app_p _ hm3 hr3); clear hr3 hm3)
            | (gi_at_builtin; refine wpListIn_appI _ rfl (.tmp 60) (.tmp 62) 29 22 .u64 8 rfl Try.underlying29 Try.info22 (w.heap.size + 2) _ _ (unhide RSP).ra rfl V _ rfl (by simp) (by have := unhide HLA; omega) (by have := unhide HLA; unfold maxLen; omega) (unhide RSP).low ?_; intro av' W4 hr4 hm4; have RSA := hide ((unhide RSP).app_a _ hm4 hr4); clear hr4 hm4)
            | (gi_at_builtin; refine wpListIn_appB _ rfl (.tmp 64) (.tmp 65) rfl (w.heap.size + 2) _ _ (unhide RSA).rb rfl g2 (layF V n) n n (layF_length _ _) (by rw [layF_length]; omega) ((unhide RSA).cells (by intro e; have := layF_length V n; rw [e] at this; simp at this; omega)) rfl (by rw [layF_length]; have := unhide HLBY; omega) (unhide RSA).low ?_; intro bv' W5 hr5 hm5; have RSB := hide ((unhide RSA).app_b hm5 hr5); clear hr5 hm5)
            | fail)
          go_roundw
          case rel => exact ⟨cs ++ [(V, n)], by simp; omega, by simp, good_snoc (unhide HG) hV0 (unhide HFIT), by
            rw [bytesOf_snoc, pairs_snoc, List.map_append, List.map_append]
            simp only [List.map_cons, List.map_nil, Int.zero_add]
            exact unhide RSB⟩
          case measure => simp [intOf]; omega

        · gi_wp2_with (first
            | (gi_at_call 7; refine (callsIn_wide.2 (put_ok V _ hV0 hV1)).mono ?_; rintro e w' ⟨rfl, rfl⟩; have RSC := hide ((unhide RSC0).newc (layF V (sizeF V))); generalize wr.heap.size = g1 at RSC ⊢; have hcw := cell_alloc2 hcd (bts (layF V (sizeF V))); generalize wr.alloc (bts (layF V (sizeF V))) = Wc at RSC hcw ⊢)
            | (gi_at_call 8; refine (callsIn_wide.2 (putAs_bad V y Wc hV0 hV1 hy)).mono ?_; rintro e w' ⟨c, hc, rfl, hw⟩; subst w'; have hc0 := beq_zero_ne (show c ≠ 0 by omega); clear hc)
            | (gi_at_builtin; refine wpListIn_appI _ rfl (.tmp 55) (.tmp 58) 30 3 .i64 8 rfl Try.underlying30 Try.info3 (w.heap.size + 2) _ _ (unhide RSC).rp rfl ((bytesOf cs).length : Int) _ rfl (by simp) (by have := unhide HLP; omega) (by have := unhide HLP; unfold maxLen; omega) (unhide RSC).low ?_; intro pv' W3 hr3 hm3; have RSP := hide ((unhide RSC).app_p _ hm3 hr3); clear hr3 hm3)
            | (gi_at_builtin; refine wpListIn_appI _ rfl (.tmp 60) (.tmp 62) 29 22 .u64 8 rfl Try.underlying29 Try.info22 (w.heap.size + 2) _ _ (unhide RSP).ra rfl V _ rfl (by simp) (by have := unhide HLA; omega) (by have := unhide HLA; unfold maxLen; omega) (unhide RSP).low ?_; intro av' W4 hr4 hm4; have RSA := hide ((unhide RSP).app_a _ hm4 hr4); clear hr4 hm4)
            | (gi_at_builtin; refine wpListIn_appB _ rfl (.tmp 64) (.tmp 65) rfl (w.heap.size + 2) _ _ (unhide RSA).rb rfl g1 (layF V (sizeF V)) (sizeF V) (sizeF V) (layF_length _ _) (by rw [layF_length]; omega) ((unhide RSA).cells (by intro e; have := layF_length V (sizeF V); rw [e] at this; simp at this; omega)) rfl (by rw [layF_length]; have := unhide HLBY; omega) (unhide RSA).low ?_; intro bv' W5 hr5 hm5; have RSB := hide ((unhide RSA).app_b hm5 hr5); clear hr5 hm5)
            | fail)
          go_roundw
          case rel => exact ⟨cs ++ [(V, sizeF V)], by simp; omega, by simp, good_snoc (unhide HG) hV0 (unhide HFS), by
            rw [bytesOf_snoc, pairs_snoc, List.map_append, List.map_append]
            simp only [List.map_cons, List.map_nil, Int.zero_add]
            exact unhide RSB⟩
          case measure => simp [intOf]; omega

      · have HFIT := HFS
        gi_wp2_with (first
          | (gi_at_call 7; refine (callsIn_wide.2 (put_ok V _ hV0 hV1)).mono ?_; rintro e w' ⟨rfl, rfl⟩; have RSC := hide ((unhide RSC0).newc (layF V (sizeF V))); generalize wr.heap.size = g1 at RSC ⊢; generalize wr.alloc (bts (layF V (sizeF V))) = Wc at RSC ⊢)
          | (gi_at_builtin; refine wpListIn_appI _ rfl (.tmp 55) (.tmp 58) 30 3 .i64 8 rfl Try.underlying30 Try.info3 (w.heap.size + 2) _ _ (unhide RSC).rp rfl ((bytesOf cs).length : Int) _ rfl (by simp) (by have := unhide HLP; omega) (by have := unhide HLP; unfold maxLen; omega) (unhide RSC).low ?_; intro pv' W3 hr3 hm3; have RSP := hide ((unhide RSC).app_p _ hm3 hr3); clear hr3 hm3)
          | (gi_at_builtin; refine wpListIn_appI _ rfl (.tmp 60) (.tmp 62) 29 22 .u64 8 rfl Try.underlying29 Try.info22 (w.heap.size + 2) _ _ (unhide RSP).ra rfl V _ rfl (by simp) (by have := unhide HLA; omega) (by have := unhide HLA; unfold maxLen; omega) (unhide RSP).low ?_; intro av' W4 hr4 hm4; have RSA := hide ((unhide RSP).app_a _ hm4 hr4); clear hr4 hm4)
          | (gi_at_builtin; refine wpListIn_appB _ rfl (.tmp 64) (.tmp 65) rfl (w.heap.size + 2) _ _ (unhide RSA).rb rfl g1 (layF V (sizeF V)) (sizeF V) (sizeF V) (layF_length _ _) (by rw [layF_length]; omega) ((unhide RSA).cells (by intro e; have := layF_length V (sizeF V); rw [e] at this; simp at this; omega)) rfl (by rw [layF_length]; have := unhide HLBY; omega) (unhide RSA).low ?_; intro bv' W5 hr5 hm5; have RSB := hide ((unhide RSA).app_b hm5 hr5); clear hr5 hm5)
          | fail)
        go_roundw
        case rel => exact ⟨cs ++ [(V, sizeF V)], by simp; omega, by simp, good_snoc (unhide HG) hV0 (unhide HFIT), by
          rw [bytesOf_snoc, pairs_snoc, List.map_append, List.map_append]
          simp only [List.map_cons, List.map_nil, Int.zero_add]
          exact unhide RSB⟩
        case measure => simp [intOf]; omega

    · have hcl : cs.length = l.length := by omega
      have HCL := hide hcl
      clear rs hcl
      have hfn := func_nil
      gi_wp2_with (gi_at_call 9; refine (callsIn_wide.2 (all_in xb (bytesOf cs).length cb 0 wr)).mono ?_; rintro e w' ⟨rfl, rfl⟩)
      have b3 : Below wr.heap.size wr ((((wr.alloc (.cells #[.slice xb (bytesOf cs).length cb] 24)).alloc (.cells #[.int .i64 0] 3)).alloc (.cells #[.slice none 0 0] 30)).alloc (.cells #[.slice none 0 0] 29)) := ((((Below.refl _ _).alloc (Nat.le_refl _) _).alloc (by simp) _).alloc (by simp; omega) _).alloc (by simp; omega) _
      have hs3 : ((((wr.alloc (.cells #[.slice xb (bytesOf cs).length cb] 24)).alloc (.cells #[.int .i64 0] 3)).alloc (.cells #[.slice none 0 0] 30)).alloc (.cells #[.slice none 0 0] 29)).heap.size = wr.heap.size + 4 := by simp
      have k1 : ((((wr.alloc (.cells #[.slice xb (bytesOf cs).length cb] 24)).alloc (.cells #[.int .i64 0] 3)).alloc (.cells #[.slice none 0 0] 30)).alloc (.cells #[.slice none 0 0] 29)).heap[wr.heap.size]? = some (.cells #[.slice xb (bytesOf cs).length cb] 24 (0, 0)) := by
        rw [Below.heap_alloc _ _ _ (by simp <;> omega), Below.heap_alloc _ _ _ (by simp <;> omega), Below.heap_alloc _ _ _ (by simp <;> omega)]; exact heap_alloc_new wr _
      have k2 : ((((wr.alloc (.cells #[.slice xb (bytesOf cs).length cb] 24)).alloc (.cells #[.int .i64 0] 3)).alloc (.cells #[.slice none 0 0] 30)).alloc (.cells #[.slice none 0 0] 29)).heap[wr.heap.size + 1]? = some (.cells #[.int .i64 0] 3 (0, 0)) := by
        rw [Below.heap_alloc _ _ _ (by simp <;> omega), Below.heap_alloc _ _ _ (by simp <;> omega)]
        have := heap_alloc_new (wr.alloc (.cells #[.slice xb (bytesOf cs).length cb] 24)) (.cells #[.int .i64 0] 3); simpa using this
      have k3 : ((((wr.alloc (.cells #[.slice xb (bytesOf cs).length cb] 24)).alloc (.cells #[.int .i64 0] 3)).alloc (.cells #[.slice none 0 0] 30)).alloc (.cells #[.slice none 0 0] 29)).heap[wr.heap.size + 2]? = some (.cells #[.slice none 0 0] 30 (0, 0)) := by
        rw [Below.heap_alloc _ _ _ (by simp <;> omega)]
        have := heap_alloc_new ((wr.alloc (.cells #[.slice xb (bytesOf cs).length cb] 24)).alloc (.cells #[.int .i64 0] 3)) (.cells #[.slice none 0 0] 30); simpa using this
      have k4 : ((((wr.alloc (.cells #[.slice xb (bytesOf cs).length cb] 24)).alloc (.cells #[.int .i64 0] 3)).alloc (.cells #[.slice none 0 0] 30)).alloc (.cells #[.slice none 0 0] 29)).heap[wr.heap.size + 3]? = some (.cells #[.slice none 0 0] 29 (0, 0)) := by
        have := heap_alloc_new (((wr.alloc (.cells #[.slice xb (bytesOf cs).length cb] 24)).alloc (.cells #[.int .i64 0] 3)).alloc (.cells #[.slice none 0 0] 30)) (.cells #[.slice none 0 0] 29); simpa using this
      generalize ((((wr.alloc (.cells #[.slice xb (bytesOf cs).length cb] 24)).alloc (.cells #[.int .i64 0] 3)).alloc (.cells #[.slice none 0 0] 30)).alloc (.cells #[.slice none 0 0] 29)) = W3 at b3 hs3 k1 k2 k3 k4 ⊢
      have rs := unhide RSC0
      obtain ⟨xb', cb', eb', -, -, hrd⟩ := rs.rb.rdB (bytesOf_byte cs (unhide HG))
      simp only [Value.slice.injEq] at eb'
      obtain ⟨rfl, -, rfl⟩ := eb'
      have hrd3 : RdB (wr.heap.size + 2) W3 xb (bytesOf cs) := ⟨hrd.1, fun hne => by
        obtain ⟨b, off, e, hlt, hc⟩ := hrd.2 hne
        exact ⟨b, off, e, by omega, fun i hi => (b3.cell (p := ⟨b, off + i, none⟩) hlt).trans (hc i hi)⟩⟩
      have hN : (allG (bytesOf cs) 0).length = l.length := by rw [all_row cs (unhide HG), pairs_length]; exact unhide HCL
      have hlow := rs.low
      have bx1 : W3.heap[w.heap.size]? = some (.cells #[.slice a l.length ca] 29 (0, 0)) := by rw [b3.block _ (by omega), rs.bel.block _ (by omega)]; exact unhide BX1
      have bx2 : W3.heap[w.heap.size + 1]? = some (.cells #[.bool false] 4 (0, 0)) := by rw [b3.block _ (by omega), rs.bel.block _ (by omega)]; exact unhide BX2
      have rp3 := rs.rp.below b3
      have ra3 := rs.ra.below b3
      have rpl : ∀ g, (u7 : Value).ownBlock = some g → g < wr.heap.size + 2 := fun g hg => by have := (World.ownsRow.lt rs.rp g hg).2; omega
      have ral : ∀ g, (u8 : Value).ownBlock = some g → g < wr.heap.size + 2 := fun g hg => by have := (World.ownsRow.lt rs.ra g hg).2; omega
      have bw3 : Below w.heap.size w W3 := (unhide B0).trans ((rs.bel.mono (by omega)).trans (b3.mono (by omega)))
      have tb0 : TB (wr.heap.size + 2) W3 (wr.heap.size + 2) (wr.heap.size + 3) W3 (.slice none 0 0) (.slice none 0 0) [] [] := ⟨k3, World.ownsRow_nil _ _ _ _, k4, World.ownsRow_nil _ _ _ _, Below.refl _ _, Nat.le_refl _, by omega⟩
      have c1 := Boxed.cell (show Boxed W3 (wr.heap.size + 1) 3 (.int .i64 0) from k2)
      have c2 := Boxed.cell (show Boxed W3 wr.heap.size 24 (.slice xb (bytesOf cs).length cb) from k1)
      have HALL := hide (all_row cs (unhide HG)); have HN := hide hN; have RP3 := hide rp3; have RA3 := hide ra3; have BW3 := hide bw3; have RPL := hide rpl; have RAL := hide ral; have HX1 := hide bx1; have HX2 := hide bx2
      clear RSC0 rs hrd hN rp3 ra3 bw3 b3 k1 k2 k3 k4 rpl ral bx1 bx2 hfn hbox
      generalize wr.heap.size = g0 at *
      refine rangeG 18 19 rfl (by omega) (gf := 16) (lb := #[.pointer (some ⟨g0 + 1, 0, none⟩), .pointer (some ⟨g0, 0, none⟩)]) rfl trivial (enters_of Try.func16 (by kernel_rfl) rfl)
        (all_stops (4 - 1) (by omega) (g0 + 1) g0 (g0 + 2) cb xb (bytesOf cs) 0 hcb (by unfold maxLen; omega) W3 (by omega) (by omega) (by omega) c1 c2 hrd3) belowK_t (belowK_b (by omega)) (Below.refl _ _)
        (TI2 (g0 + 2) W3 (g0 + 2) (g0 + 3)) (fun _ _ _ => False) (TI2.own (by omega) (by omega)) (fun _ _ _ _ _ h _ _ => h) ⟨_, _, tb0⟩ ?assign ?body ?done ?stop
      case assign =>
        intro l x W K hK
        gi_wp2
        exact hK
      case body =>
        rintro L pre x W ⟨pv, mv, tb⟩ hpl
        rw [unhide HN] at hpl
        have cp := tb.bp.cell
        have cm := tb.bm.cell
        have lp : (pre.map Prod.fst).length = pre.length := List.length_map _
        have lm : (pre.map Prod.snd).length = pre.length := List.length_map _
        have cl : W.cell? ⟨w.heap.size, 0, none⟩ = some (.slice a l.length ca) := Boxed.cell (show Boxed W w.heap.size 29 _ from (tb.bel.block w.heap.size (by omega)).trans (unhide HX1))
        have LP1 : Hid ((pre.map Prod.fst ++ [x.1]).length = pre.length + 1) := by show _ = _; simp
        have LM1 : Hid ((pre.map Prod.snd ++ [x.2]).length = pre.length + 1) := by show _ = _; simp
        have hle : ¬ (l.length : Int) < (pre.length : Int) + 1 := by omega
        have TBH := hide tb; have LPH := hide lp; have LMH := hide lm
        clear tb lp lm
        gi_wp2_with (first
          | (gi_at_builtin; refine wpListIn_appI W rfl (.tmp 78) (.tmp 80) 30 3 .i64 8 rfl Try.underlying30 Try.info3 (g0 + 2) _ _ (unhide TBH).rp rfl x.1 _ rfl (by simp) (by have := unhide LPH; omega) (by have := unhide LPH; unfold maxLen; omega) (unhide TBH).low ?_; intro pv' W4 hr4 hm4; obtain ⟨ap, cp', ep, -⟩ := hr4.shape; rw [unhide LP1] at ep; subst ep; obtain ⟨⟨z1, z2⟩, tb4, ko4, bl4⟩ := (unhide TBH).app_p _ hm4 hr4; have cm4 := tb4.bm.cell; have TB4 := hide tb4; have KO4 := hide ko4; have BL4 := hide bl4; clear hr4 hm4 tb4 ko4 bl4)
          | (gi_at_builtin; refine wpListIn_appI _ rfl (.tmp 82) (.tmp 84) 29 22 .u64 8 rfl Try.underlying29 Try.info22 (g0 + 2) _ _ (unhide TB4).rm rfl x.2 _ rfl (by simp) (by have := unhide LMH; omega) (by have := unhide LMH; unfold maxLen; omega) (unhide TB4).low ?_; intro mv' W5 hr5 hm5; obtain ⟨am, cm', em, -⟩ := hr5.shape; rw [unhide LM1] at em; subst em; obtain ⟨⟨z3, z4⟩, tb5, ko5, bl5⟩ := (unhide TB4).app_m _ hm5 hr5; have cp5 := tb5.bp.cell; have cl5 := ((unhide BL4).trans bl5).cell (p := ⟨w.heap.size, 0, none⟩) (show w.heap.size < g0 + 2 by omega); rw [cl] at cl5; have TB5 := hide tb5; have KO5 := hide ko5; have BL5 := hide bl5; clear hr5 hm5 tb5 ko5 bl5)
          | fail)
        refine ⟨((unhide KO4).trans (unhide KO5)).from _, (unhide BL4).trans (unhide BL5), .slice ap (pre.length + 1) cp', .slice am (pre.length + 1) cm', ?_⟩
        rw [List.map_append, List.map_append]
        exact unhide TB5
      case done =>
        rintro D ys W hD rfl ⟨pv, mv, tb⟩ hK
        have hpairs := unhide HALL
        rw [hpairs] at tb
        have cp := tb.bp.cell
        have cm := tb.bm.cell
        have rp := (unhide RP3).belowN (unhide RPL) tb.bel
        have ra := (unhide RA3).belowN (unhide RAL) tb.bel
        have x2 : W.heap[w.heap.size + 1]? = some (.cells #[.bool false] 4 (0, 0)) := (tb.bel.block _ (by omega)).trans (unhide HX2)
        have bW := (unhide BW3).trans (tb.bel.mono (show w.heap.size ≤ g0 + 2 by omega))
        obtain ⟨a7, c7, e7, i7, j7, -⟩ := rp.shape
        have l1 : ((pairs cs 0).map Prod.fst).length = l.length := by rw [List.length_map, pairs_length]; exact unhide HCL
        have l2 : ((pairs cs 0).map Prod.snd).length = l.length := by rw [List.length_map, pairs_length]; exact unhide HCL
        have cs1 := same_true W (g0 + 2) (g0 + 2) (w.heap.size + 2) (w.heap.size + 2) pv mv u7 u8 ((pairs cs 0).map Prod.fst) ((pairs cs 0).map Prod.snd) l.length l.length (by rw [l1, l2]) (by omega) (.inl rfl) (by omega)
          (by rw [List.take_of_length_le (by omega)]; exact tb.rp) (by rw [List.take_of_length_le (by omega)]; exact tb.rm) rp ra
        rw [l1] at e7
        subst e7
        have CS := hide cs1; have BW := hide bW; have X2 := hide x2; have HKD := hide hK; have HDD := hide hD
        clear tb rp ra cs1 bW x2 hK hpairs hrd3 tb0 hD l1 l2 i7 j7
        gi_wp2_with (gi_at_call 10; refine (callsIn_wide.2 (unhide CS)).mono ?_; rintro e w' ⟨rfl, q, rfl⟩; have x3 : Hid ((W.drewN q).heap[w.heap.size + 1]? = some (.cells #[.bool false] 4 (0, 0))) := X2; have HK3 : Hid ((W.drewN q).heap[D]? = some (.deferred (some []))) := HKD; have BW4 := hide (bel_drewN (unhide BW) q); have cz := Boxed.cell (show Boxed (W.drewN q) (w.heap.size + 1) 4 (.bool false) from unhide x3); have cf := Boxed.frozen (show Boxed (W.drewN q) (w.heap.size + 1) 4 (.bool false) from unhide x3); generalize W.drewN q = W9 at x3 HK3 BW4 cz cf ⊢)
        have hne : D ≠ w.heap.size + 1 := by
          intro e
          have h1 := unhide HK3
          rw [e, unhide x3] at h1
          simp at h1
        have hKf : (W9.setCell ⟨w.heap.size + 1, 0, none⟩ (.bool true)).heap[D]? = some (.deferred (some [])) := by
          rw [heap_setCell_other _ _ _ _ (by show D ≠ w.heap.size + 1; exact hne)]; exact unhide HK3
        have bxf := Boxed.set (.bool true) (show Boxed W9 (w.heap.size + 1) 4 (.bool false) from unhide x3)
        have belf : Below w.heap.size w (W9.setCell ⟨w.heap.size + 1, 0, none⟩ (.bool true)) := (unhide BW4).setCell (p := ⟨w.heap.size + 1, 0, none⟩) (by show w.heap.size ≤ w.heap.size + 1; omega) _
        refine ⟨by simp, .inl ⟨_, _, rfl, run_takeDeferred hKf, ?_⟩⟩
        have hcf : ((W9.setCell ⟨w.heap.size + 1, 0, none⟩ (.bool true)).putObj D (.deferred none)).cell? ⟨w.heap.size + 1, 0, none⟩ = some (.bool true) := cell_kept bxf.cell (grownBy_putObj' _ D (.deferred none)) (fun r e => by cases e; exact ⟨_, hKf, rfl⟩)
        have belz : Below w.heap.size w ((W9.setCell ⟨w.heap.size + 1, 0, none⟩ (.bool true)).putObj D (.deferred none)) := belf.grown (grownBy_putObj' _ D (.deferred none)) belf.size (fun k e => by cases e; have := unhide HDD; omega)
        refine ⟨.bool true, ?_, rfl, belz⟩
        simp [results, Try.results4, go_sem, hcf]
      case stop =>
        rintro D c pre W _ _ h _
        exact h.elim

theorem row_walk (a d : Option Addr) (l wd : List Int) (ca cd : Nat) (w : World) (hl : RdI .u64 w a l) (hd : RdI .i64 w d wd) (hlb : ∀ x ∈ l, 0 ≤ x ∧ x < 18446744073709551616) (h47 : l.length * 8 ≤ 140737488351232) (hwd : wd.length ≤ 140737488351232) :
    Calls Try.prog 4 #[.slice a l.length ca, .slice d wd.length cd] w fun e w' => e = .returned (.bool true) ∧ Below w.heap.size w w' :=
  callsIn_wide.1 (row_in a d l wd ca cd w hl hd hlb h47 hwd)
end Go.Proofs.Ytommpeibdohdjab
