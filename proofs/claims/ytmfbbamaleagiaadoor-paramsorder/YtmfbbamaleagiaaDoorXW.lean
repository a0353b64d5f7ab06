/- The reader: one parameter. -/
import Derived.Test.YtmfbbamaleagiaaDoorXV
namespace Go.Proofs.YtmfbbamaleagiaaDoor
open Go.RowKit Go.Maps
set_option linter.unusedVariables false
set_option maxRecDepth 100000
set_option maxHeartbeats 1000000

theorem getF_good (l : List Int) (hb : ∀ x ∈ l, IsB x) (i : Int) (h : (getF l i).2.2 = 0) : 0 ≤ i ∧ i < (getF l i).2.1 ∧ (getF l i).2.1 ≤ l.length ∧ 0 ≤ (getF l i).1 ∧ (getF l i).1 ≤ 4611686018427387903 := by
  rcases getF_cases l i with ⟨c, hc, e⟩ | ⟨k, rfl, h1, h2, e⟩
  · rw [e] at h; simp at h; omega
  · rw [e]
    have hz := sz_size (l.getD k 0)
    have hx : IsB (l.getD k 0) := hb _ (by simp [List.getD, h1])
    obtain ⟨h3, h4, -⟩ := lay_back (l.getD k 0) ((l.drop (k + 1)).take (sz (l.getD k 0) - 1)) hx (fun y hy => hb y (List.mem_of_mem_drop (List.mem_of_mem_take hy))) (by rw [List.length_take, List.length_drop]; omega)
    have h5 := (size_le _ _ h4).2
    simp only
    omega

/-- Other values. -/
def Ps.set (p : Ps) (i : Nat) (v : Int) : Ps :=
  match i with
  | 0 => { p with a0 := v } | 1 => { p with a1 := v } | 2 => { p with a2 := v } | 3 => { p with a3 := v } | 4 => { p with a4 := v }
  | 5 => { p with a5 := v } | 6 => { p with a6 := v } | 7 => { p with a7 := v } | 8 => { p with a8 := v } | _ => p
theorem Ps.set_cs (p : Ps) (i : Nat) (v : Int) (hi : i < 9) : p.cs.setIfInBounds i (.int .i64 v) = (p.set i v).cs := by
  obtain rfl | rfl | rfl | rfl | rfl | rfl | rfl | rfl | rfl : i = 0 ∨ i = 1 ∨ i = 2 ∨ i = 3 ∨ i = 4 ∨ i = 5 ∨ i = 6 ∨ i = 7 ∨ i = 8 := by omega
  all_goals rfl

/-- Between two parameters. -/
structure St where
  (k : Nat) (cm : List Int) (vs : Ps)

/-- One parameter, as the document has it. -/
def stepP (l : List Int) (s : St) : Except Int St :=
  if (getF l s.k).2.2 ≠ 0 then .error 60
  else if s.cm.contains (getF l s.k).1 = true then .error 61
  else if (getF l (getF l s.k).2.1).2.2 ≠ 0 then .error 60
  else if (l.length : Int) - (getF l (getF l s.k).2.1).2.1 < (getF l (getF l s.k).2.1).1 then .error 60
  else match placeF (getF l s.k).1 with
    | none => .ok ⟨((getF l (getF l s.k).2.1).2.1 + (getF l (getF l s.k).2.1).1).toNat, s.cm ++ [(getF l s.k).1], s.vs⟩
    | some i =>
      if (getF ((l.drop (getF l (getF l s.k).2.1).2.1.toNat).take (getF l (getF l s.k).2.1).1.toNat) 0).2.2 ≠ 0 ∨ (getF ((l.drop (getF l (getF l s.k).2.1).2.1.toNat).take (getF l (getF l s.k).2.1).1.toNat) 0).2.1 ≠ (getF l (getF l s.k).2.1).1 ∨
        mostT i < (getF ((l.drop (getF l (getF l s.k).2.1).2.1.toNat).take (getF l (getF l s.k).2.1).1.toNat) 0).1 then .error 62
      else .ok ⟨((getF l (getF l s.k).2.1).2.1 + (getF l (getF l s.k).2.1).1).toNat, s.cm ++ [(getF l s.k).1], s.vs.set i (getF ((l.drop (getF l (getF l s.k).2.1).2.1.toNat).take (getF l (getF l s.k).2.1).1.toNat) 0).1⟩

/-- What parameter leaves. -/
def PaPost (w0 : World) (g bm lv : Nat) (a : Option Addr) (l : List Int) (c : Nat) (r : Except Int St) (e : Ending) (w' : World) : Prop :=
  match r with
  | .error x => e = .returned (.int .i64 x) ∧ (x = 60 ∨ x = 61 ∨ x = 62) ∧ w0.grownBy w' none
  | .ok s => e = .returned (.int .i64 0) ∧ DI w0 w' g bm lv a l c s.k s.cm s.vs

theorem place_lt (n : Int) (i : Nat) (h : placeF n = some i) : i < 9 := by
  have : ∀ f k, f + k = 9 → placeFrom n f k = some i → i < 9 := by
    intro f
    induction f with
    | zero => intro k _ e; cases e
    | succ f ih =>
      intro k hk e
      unfold placeFrom at e
      split at e
      · injection e with e; omega
      · exact ih (k + 1) (by omega) e
  exact this 9 0 rfl h

section
variable {w0 wr : World} {g bm lv : Nat} {a : Option Addr} {l : List Int} {c : Nat} {s : St}

theorem DI.setV {k : Nat} {cm : List Int} {vs : Ps} (h : DI w0 wr g bm lv a l c k cm vs) (i : Nat) (hi : i < 9) (v : Int) : DI w0 (wr.setCell ⟨lv, i, none⟩ (.int .i64 v)) g bm lv a l c k cm (vs.set i v) :=
  ⟨h.blk.setO _ _ _ (Ne.symm h.ne), by rw [← Ps.set_cs _ _ _ hi]; exact h.vals.setC i _, h.map.setCell (a := ⟨lv, i, none⟩) h.gm.2 _, h.rd0, h.cap, h.max, h.at_, h.low, h.ne, grown_set h.gr _ _ _ h.low.2.2, h.few, h.pl⟩

theorem DI.parameter (h : DI w0 wr g bm lv a l c s.k s.cm s.vs) (hT : Tb w0) :
    Calls Tryd.prog 40 #[.pointer (some ⟨g, 0, none⟩), .pointer (some ⟨lv, 0, none⟩)] wr (PaPost w0 g bm lv a l c (stepP l s)) := by
  have hb := h.rd0.1
  unfold stepP
  by_cases h1 : (getF l s.k).2.2 ≠ 0
  · rw [if_pos h1]
    have hn := h.number_no h1
    clear h
    go_enter Tryd.func40, Tryd.ntmps40
    go_wp2_with (go_at_call 47; refine hn.mono ?_; rintro e W1 ⟨rfl, g1⟩; have G1 := hide g1; clear hn g1)
    go_ret
    exact ⟨rfl, by omega, unhide G1⟩
  · rw [if_neg h1]
    have h1' : (getF l s.k).2.2 = 0 := by omega
    obtain ⟨-, p1, p2, p3, p4⟩ := getF_good l hb _ h1'
    generalize ht : getF l s.k = t at *
    by_cases h2 : s.cm.contains t.1 = true
    · rw [if_pos h2]
      have hn := h.number_twice t ht h1' (by omega) (by omega) h2
      clear h
      go_enter Tryd.func40, Tryd.ntmps40
      go_wp2_with (go_at_call 47; refine hn.mono ?_; rintro e W1 ⟨rfl, g1⟩; have G1 := hide g1; clear hn g1)
      go_ret
      exact ⟨rfl, by omega, unhide G1⟩
    · rw [if_neg h2]
      have hn := h.number_ok t ht h1' (by omega) (by omega) (by simpa using h2)
      have eT : ((t.2.1.toNat : Nat) : Int) = t.2.1 := Int.toNat_of_nonneg (by omega)
      generalize hK : t.2.1.toNat = K at *
      rw [← eT]
      by_cases h3 : (getF l K).2.2 ≠ 0
      · rw [if_pos h3]
        clear h
        go_enter Tryd.func40, Tryd.ntmps40
        go_wp2_with (first | (go_at_call 47; refine hn.mono ?_; rintro e W1 ⟨rfl, D1⟩; have hv := D1.value_no h3; clear hn D1) | (go_at_call 48; refine hv.mono ?_; rintro e W2 ⟨rfl, g1⟩; have G1 := hide g1; clear hv g1))
        go_ret
        exact ⟨rfl, by omega, unhide G1⟩
      · rw [if_neg h3]
        have h3' : (getF l K).2.2 = 0 := by omega
        obtain ⟨-, q1, q2, q3, q4⟩ := getF_good l hb _ h3'
        by_cases h4 : (l.length : Int) - (getF l K).2.1 < (getF l K).1
        · rw [if_pos h4]
          clear h
          go_enter Tryd.func40, Tryd.ntmps40
          go_wp2_with (first | (go_at_call 47; refine hn.mono ?_; rintro e W1 ⟨rfl, D1⟩; have hv := D1.value_short _ rfl h3' (by omega) (by omega) h4; clear hn D1) | (go_at_call 48; refine hv.mono ?_; rintro e W2 ⟨rfl, g1⟩; have G1 := hide g1; clear hv g1))
          go_ret
          exact ⟨rfl, by omega, unhide G1⟩
        · rw [if_neg h4]
          generalize hu : getF l K = u at *
          obtain ⟨U, hU⟩ : ∃ U : Nat, u.2.1 = U := ⟨u.2.1.toNat, by omega⟩
          obtain ⟨N, hN⟩ : ∃ N : Nat, u.1 = N := ⟨u.1.toNat, by omega⟩
          have eu : u = ((N : Int), (U : Int), 0) := by
            obtain ⟨x, y, z⟩ := u; simp only at hU hN h3'; rw [hU, hN, h3']
          subst eu
          simp only [Int.toNat_natCast] at *
          rw [show ((U : Int) + (N : Int)).toNat = U + N by omega]
          have pl := place_any t.1
          have hUN : U + N ≤ l.length := by omega
          have hKU : K < U := by omega
          clear h
          cases hpl : placeF t.1 with
          | none =>
            rw [hpl] at pl
            unfold placeV at pl
            go_enter Tryd.func40, Tryd.ntmps40
            go_wp2_with (first | (go_at_call 47; refine hn.mono ?_; rintro e W1 ⟨rfl, D1⟩; have hv := D1.value_ok 0 N U hu hKU hUN; clear hn D1) | (go_at_call 48; refine hv.mono ?_; rintro e W2 ⟨a', c', rfl, r1, r2, r3, D2⟩; clear hv) | (go_at_call 49; refine (pl _ (hT.grown D2.gr)).mono ?_; rintro e W3 ⟨rfl, g3⟩; have HD := hide (D2.grown g3); clear D2 pl g3))
            go_ret
            exact ⟨rfl, unhide HD⟩
          | some i =>
            rw [hpl] at pl
            unfold placeV at pl
            have hi := place_lt _ _ hpl
            simp only
            have hsl : ((l.drop U).take N).length = N := by rw [List.length_take, List.length_drop]; omega
            have hm := (most_small i hi).1
            have hlt : (i : Int) < 9 := by omega
            have hsb : ∀ x ∈ (l.drop U).take N, IsB x := fun x hx => hb x (List.mem_of_mem_drop (List.mem_of_mem_take hx))
            have hgd := getF_good _ hsb 0
            have hz : ∀ k', 0 ≤ mostT k' := by intro k'; unfold mostT; rcases k' with _ | _ | _ | _ | _ | _ | _ | _ | _ | k' <;> simp
            have hz := hz i
            generalize hy : getF ((l.drop U).take N) 0 = y at *
            obtain ⟨y1, y2, y3⟩ := y
            simp only at *
            have hwm : IntKind.u64.wrap (mostT i) = mostT i := by rw [IntKind.wrap_u64]; omega
            have gg : Hid (∀ (W : World) (a' : Option Addr) (c' : Nat), Rd W a' ((l.drop U).take N) → N ≤ c' → c' ≤ maxLen → Calls Tryd.prog 50 #[.slice a' N c', .int .i64 0] W fun e w' => e = .returned (.tuple #[.int .u64 y1, .int .i64 y2, .int .i64 y3]) ∧ ∃ n, w' = W.drewN n) := by
              intro W a' c' r1 r2 r3
              have := get_any a' ((l.drop U).take N) c' 0 W r1 (by omega) r3
              rw [hy, hsl] at this
              exact this
            have cT : Hid (∀ (W : World), w0.grownBy W none → W.cell? ⟨0, i * 3 + 1, none⟩ = some (.int .i64 (mostT i))) := fun W gW => ((hT.grown gW).at_ i hi).2.1
            generalize mostT i = M at *
            clear hsb hsl hb hpl
            have hpD := hide (And.intro p1 (And.intro p2 (And.intro q1 q2)))
            by_cases b1 : y3 = 0
            · by_cases b2 : y2 = N
              · by_cases b3 : M < y1
                · rw [if_pos (.inr (.inr b3))]
                  subst b1 b2
                  have hd : ((N : Int) != (N : Int)) = false := by simp
                  clear hgd hz h4
                  go_enter Tryd.func40, Tryd.ntmps40
                  go_wp2_with (first | (go_at_call 47; refine hn.mono ?_; rintro e W1 ⟨rfl, D1⟩; have hv := D1.value_ok 0 N U hu hKU hUN; clear hn D1) | (go_at_call 48; refine hv.mono ?_; rintro e W2 ⟨a', c', rfl, r1, r2, r3, D2⟩; clear hv) | (go_at_call 49; refine (pl _ (hT.grown D2.gr)).mono ?_; rintro e W3 ⟨rfl, g3⟩; have hg := unhide gg W3 a' c' (rd_below r1 (grown_bel g3)) r2 r3; have HD := hide (D2.grown g3); clear D2 pl g3 r1 r2 r3) | (go_at_call 50; refine hg.mono ?_; rintro e W4 ⟨rfl, q, rfl⟩; have cM := unhide cT _ ((unhide HD).drewN q).gr; clear hg))
                  go_ret
                  exact ⟨rfl, by omega, ((unhide HD).drewN q).gr⟩
                · rw [if_neg (by rintro (x | x | x) <;> first | exact x b1 | exact x b2 | exact b3 x)]
                  subst b1 b2
                  have hd : ((N : Int) != (N : Int)) = false := by simp
                  have hc1 : IntKind.i64.wrap y1 = y1 := by rw [IntKind.wrap_i64]; have := hgd rfl; omega
                  have b4 : y1 ≤ M := by omega
                  clear hgd hz h4 b3
                  go_enter Tryd.func40, Tryd.ntmps40
                  go_wp2_with (first | (go_at_call 47; refine hn.mono ?_; rintro e W1 ⟨rfl, D1⟩; have hv := D1.value_ok 0 N U hu hKU hUN; clear hn D1) | (go_at_call 48; refine hv.mono ?_; rintro e W2 ⟨a', c', rfl, r1, r2, r3, D2⟩; clear hv) | (go_at_call 49; refine (pl _ (hT.grown D2.gr)).mono ?_; rintro e W3 ⟨rfl, g3⟩; have hg := unhide gg W3 a' c' (rd_below r1 (grown_bel g3)) r2 r3; have HD := hide (D2.grown g3); clear D2 pl g3 r1 r2 r3) | (go_at_call 50; refine hg.mono ?_; rintro e W4 ⟨rfl, q, rfl⟩; have cM := unhide cT _ ((unhide HD).drewN q).gr; have HD2 := hide (((unhide HD).drewN q).setV i hi y1); have th := ((unhide HD).drewN q).vals.thaws; obtain ⟨vv, cv⟩ : ∃ vv, (W3.drewN q).cell? ⟨lv, i, none⟩ = some vv := ⟨_, ((unhide HD).drewN q).vals.cell i _ (Array.getElem?_eq_getElem (by rw [Ps.size]; exact hi))⟩; clear hg))
                  go_ret
                  exact ⟨rfl, unhide HD2⟩
              · rw [if_pos (.inr (.inl b2))]
                subst b1
                have hd : (y2 != (N : Int)) = true := by simpa using b2
                clear hgd hz h4 b2
                go_enter Tryd.func40, Tryd.ntmps40
                go_wp2_with (first | (go_at_call 47; refine hn.mono ?_; rintro e W1 ⟨rfl, D1⟩; have hv := D1.value_ok 0 N U hu hKU hUN; clear hn D1) | (go_at_call 48; refine hv.mono ?_; rintro e W2 ⟨a', c', rfl, r1, r2, r3, D2⟩; clear hv) | (go_at_call 49; refine (pl _ (hT.grown D2.gr)).mono ?_; rintro e W3 ⟨rfl, g3⟩; have hg := unhide gg W3 a' c' (rd_below r1 (grown_bel g3)) r2 r3; have HD := hide (D2.grown g3); clear D2 pl g3 r1 r2 r3) | (go_at_call 50; refine hg.mono ?_; rintro e W4 ⟨rfl, q, rfl⟩; have cM := unhide cT _ ((unhide HD).drewN q).gr; clear hg))
                go_ret
                exact ⟨rfl, by omega, ((unhide HD).drewN q).gr⟩
            · rw [if_pos (.inl b1)]
              have hd : (y3 != 0) = true := by simpa using b1
              clear hgd hz hwm cT h4 b1
              go_enter Tryd.func40, Tryd.ntmps40
              go_wp2_with (first | (go_at_call 47; refine hn.mono ?_; rintro e W1 ⟨rfl, D1⟩; have hv := D1.value_ok 0 N U hu hKU hUN; clear hn D1) | (go_at_call 48; refine hv.mono ?_; rintro e W2 ⟨a', c', rfl, r1, r2, r3, D2⟩; clear hv) | (go_at_call 49; refine (pl _ (hT.grown D2.gr)).mono ?_; rintro e W3 ⟨rfl, g3⟩; have hg := unhide gg W3 a' c' (rd_below r1 (grown_bel g3)) r2 r3; have HD := hide (D2.grown g3); clear D2 pl g3 r1 r2 r3) | (go_at_call 50; refine hg.mono ?_; rintro e W4 ⟨rfl, q, rfl⟩; clear hg))
              go_ret
              exact ⟨rfl, by omega, ((unhide HD).drewN q).gr⟩
end
end Go.Proofs.YtmfbbamaleagiaaDoor
