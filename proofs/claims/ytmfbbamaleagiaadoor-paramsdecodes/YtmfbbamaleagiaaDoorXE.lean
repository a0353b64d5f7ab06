/- Encode. -/
import Derived.Test.YtmfbbamaleagiaaDoorXC
namespace Go.Proofs.YtmfbbamaleagiaaDoor
open Go.RowKit
set_option linter.unusedVariables false
set_option maxRecDepth 100000
set_option maxHeartbeats 1000000

theorem part_len (k : Nat) (hk : k < 9) (v : Int) (h : okV k v) : (partK k v).length ≤ 24 := by
  obtain ⟨m1, m2, m3⟩ := most_small k hk
  unfold partK
  split
  · simp
  · obtain ⟨h1, h2⟩ := h
    have a1 := sizeF_pos (numT k) (by omega)
    have a2 := sizeF_pos v (by omega)
    have a3 := sizeF_pos (sizeF v) (by omega)
    simp only [partB, List.length_append, sh_length]; omega
theorem enc_len (p : Ps) (h : ∀ j, j < 9 → okV j (p.l.getD j 0)) : ∀ k, k ≤ 9 → (encK p k).length ≤ k * 24 := by
  intro k
  induction k with
  | zero => intro _; simp [encK]
  | succ k ih => intro hk; have := ih (by omega); have := part_len k (by omega) _ (h k (by omega)); simp only [encK, List.length_append]; omega

theorem OwnB.rd {base : Nat} {w : World} {v : Value} {d : List Int} (h : OwnB base w v d) (hd : ∀ x ∈ d, IsB x) : ∃ a c, v = .slice a d.length c ∧ Rd w a d := by
  obtain ⟨_, a, c, h1, h2⟩ := own_rd (l := d) h hd
  exact ⟨a, c, h1, h2⟩
theorem part_byte (k : Nat) (hk : k < 9) (v : Int) (h : okV k v) : ∀ x ∈ partB (numT k) v, IsB x := by
  obtain ⟨m1, m2, m3⟩ := most_small k hk
  obtain ⟨h1, h2⟩ := h
  have a2 := sizeF_pos v (by omega)
  intro x hx
  simp only [partB, List.mem_append] at hx
  rcases hx with (hx | hx) | hx
  · exact lay_bytes _ (by omega) (by omega) x hx
  · exact lay_bytes _ (by omega) (by omega) x hx
  · exact lay_bytes _ (by omega) (by omega) x hx

theorem encode_any (p : Ps) (w : World) (h : Tb w) : Calls Tryd.prog 16 #[.agg p.cs] w fun e w' => ∃ s, e = .returned (.tuple #[s, .int .i64 (checkF p)]) ∧ OwnB w.heap.size w' s (if checkF p = 0 then encF p else []) ∧ w.grownBy w' none := by
  have hc := check_any p _ (h.alloc (.cells p.cs 23))
  have B0 := Blk.new w p.cs 23
  have G0 := World.grownBy_alloc w (.cells p.cs 23) none
  by_cases h0 : checkF p = 0
  · rw [if_pos h0, h0]
    rw [h0] at hc
    have hok := (checkF_ok p).1 h0
    go_enter Tryd.func16, Tryd.ntmps16
    go_wp2_with (first | (refine wpList_load_row rfl _ _ rfl w.heap.size rfl 23 p.cs (0, 0) _ (by first | exact B0 | exact unhide B1) Tryd.underlying23 rfl Tryd.sizePs ?_) | (go_at_call 11; refine hc.mono ?_; rintro e W1 ⟨rfl, g1⟩; have B1 := hide (B0.grown g1); have G1 := hide (G0.trans g1); clear hc g1 B0 G0) | (go_at_call 29; refine (valuesOf_any p _).mono ?_; rintro e W2 ⟨rfl, g2⟩; have G2 := hide ((unhide G1).trans g2); clear g2 G1))

    go_loopw [15, 5] (fun i s wr => ∃ k : Nat, k ≤ 9 ∧ i = .int .i64 k ∧ OwnB w.heap.size wr s (encK p k) ∧ w.grownBy wr none) (fun i _ _ => 9 - (intOf i).toNat)
    case atStart => exact ⟨0, by omega, rfl, World.ownsRow_nil _ _ _ _, unhide G2⟩
    case round =>
      obtain ⟨k, hk, rfl, ho, hg⟩ := hrel
      by_cases hk9 : k = 9
      · subst hk9
        have F := hide (And.intro ho hg)
        clear ho hg hok
        go_wp2_with fail
        go_ret2
        exact ⟨_, rfl, (unhide F).1, (unhide F).2⟩
      · have hlt : (k : Int) < 9 := by omega
        have hi := fun W => vals_index p k (by omega) W
        obtain ⟨c1, -, c3⟩ := (h.grown hg).at_ k (by omega)
        have okk := hok k (by omega)
        obtain ⟨m1, m2, m3⟩ := most_small k (by omega)
        have pb := part_byte k (by omega) _ okk
        have pl := part_len k (by omega) _ okk
        have el := enc_len p hok k (by omega)
        have E : encK p (k + 1) = encK p k ++ partK k (p.l.getD k 0) := rfl
        unfold partK at E pl
        generalize hv : p.l.getD k 0 = v at *
        obtain ⟨v1, v2⟩ := okk
        by_cases hu : v = untT k
        · rw [if_pos hu, List.append_nil] at E
          have F : Hid (OwnB w.heap.size wr u5 (encK p (k + 1)) ∧ w.grownBy wr none) := by rw [E]; exact ⟨ho, hg⟩
          have hd : (v != untT k) = false := by simpa using hu
          clear ho hg E pb pl el hok hu hv c1
          go_wp2_with fail
          exact ⟨⟨k + 1, by omega, rfl, (unhide F).1, (unhide F).2⟩, by simp [intOf]; omega⟩
        · rw [if_neg hu] at E pl
          have hd : (v != untT k) = true := by simpa using hu
          have hb := bytesOf_any (numT k) v wr (by omega) (by omega)
          have key : Hid (∀ W s, OwnB wr.heap.size W s (partB (numT k) v) → wr.grownBy W none → ∃ a n c, s = .slice a n c ∧ ∃ v' w', (∀ ty, (Builtin.append_ #[31, 31] ty #[u5, .slice a n c]).run Tryd.prog W = .ok v' w') ∧ OwnB w.heap.size w' v' (encK p (k + 1)) ∧ w.grownBy w' none) := by
            intro W s hs gs
            obtain ⟨a, c, rfl, hr⟩ := OwnB.rd hs pb
            obtain ⟨v', w', h1, h2, h3⟩ := app_grown w W u5 (encK p k) _ a c (World.ownsRow.kept ho gs (by cases u5.ownBlock <;> simp)) (hg.trans gs) hr (by omega)
            exact ⟨a, _, c, rfl, v', w', h1, by rw [E]; exact h2, h3⟩
          clear ho hg E pb pl el hok hu hv
          go_wp2_with (first | (go_at_call 34; refine hb.mono ?_; rintro e W3 ⟨s, rfl, ho3, g3⟩; obtain ⟨a, n, c, rfl, v', w', hr, F⟩ := unhide key _ _ ho3 g3; replace F := hide F; clear key ho3 g3 hb) | (at_builtin; refine Lib.wpList_append_run _ rfl _ _ _ _ rfl _ _ rfl rfl _ _ (hr _) ?_))
          exact ⟨⟨k + 1, by omega, rfl, (unhide F).1, (unhide F).2⟩, by simp [intOf]; omega⟩
  · rw [if_neg h0]
    have h62 : checkF p = 62 := (checkFrom_two _ _ _).resolve_left h0
    rw [h62]
    rw [h62] at hc
    go_enter Tryd.func16, Tryd.ntmps16
    go_wp2_with (first | (refine wpList_load_row rfl _ _ rfl w.heap.size rfl 23 p.cs (0, 0) _ (by first | exact B0 | exact unhide B1) Tryd.underlying23 rfl Tryd.sizePs ?_) | (go_at_call 11; refine hc.mono ?_; rintro e W1 ⟨rfl, g1⟩; have G1 := hide (G0.trans g1); clear hc g1 B0 G0))
    go_ret2
    exact ⟨_, rfl, World.ownsRow_nil _ _ _ _, unhide G1⟩
end Go.Proofs.YtmfbbamaleagiaaDoor
