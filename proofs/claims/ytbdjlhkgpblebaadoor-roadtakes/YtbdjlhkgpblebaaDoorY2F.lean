/- Road: arm, room. -/
import Derived.Test.YtbdjlhkgpblebaaDoorY2E
namespace Go.Proofs.YtbdjlhkgpblebaaDoor
open Go.RowKit Go.Shelf Go.Maps
set_option linter.unusedVariables false
set_option linter.unusedSimpArgs false
set_option maxRecDepth 100000
set_option maxHeartbeats 1000000

theorem Tryd.infoGm : (Tryd.prog.info? 56).map (fun i => (i.zero, i.size, i.bytes)) = some (some (.agg #[.int .i64 0, .int .i64 0, .int .i64 0, .string ByteArray.empty, .int .i64 0]), 5, 48) := by kernel_rfl
theorem zGm_cs : zGm.cs = #[.int .i64 0, .int .i64 0, .int .i64 0, .string ByteArray.empty, .int .i64 0] := rfl

/-- One datagram more in a row. -/
theorem app_gm {b : Nat} {W : World} {v : Value} {L : List Gm} (h : W.ownsRow b 56 5 v L.length (clG L)) (hb : b ≤ W.heap.size) (hl : L.length ≤ 100000) (g : Gm) (g0 sc : Nat) (hc : ∀ j v, g.cs[j]? = some v → W.cell? ⟨g0, j, none⟩ = some v) (t : TypeId) :
    ∃ a' c' W', (Builtin.append_ #[48, 48] t #[v, .slice (some ⟨g0, 0, none⟩) 1 sc]).run Tryd.prog W = .ok (.slice a' (L.length + 1) c') W' ∧ W'.ownsRow b 56 5 (.slice a' (L.length + 1) c') (L ++ [g]).length (clG (L ++ [g])) ∧ W.grownBy W' v.ownBlock ∧ ((Value.slice a' (L.length + 1) c').ownBlock = v.ownBlock ∨ (Value.slice a' (L.length + 1) c').ownBlock = some W.heap.size) := by
  obtain ⟨i, hi, hz0, hz1, hz2⟩ := info_parts Tryd.infoGm
  obtain ⟨v', W', hrun, ho, hgr, hnil, hob⟩ := run_append_own_at (P := Tryd.prog) W b 48 t 56 i _ 5 48 Tryd.underlying48 hi hz0 hz1 hz2 rfl (by decide) v L.length _ h ⟨g0, 0, none⟩ 1 sc g.cs.toList rfl (fun j u hj => by
      rw [Addr.add_lit, Nat.zero_add]
      exact hc j u (by simpa using hj)) (by
      intro u hu
      simp only [Gm.cs, List.mem_cons, List.not_mem_nil, or_false] at hu
      rcases hu with rfl | rfl | rfl | rfl | rfl <;> rfl) (by unfold maxLen; omega) (by omega) hb
  have e : clG L ++ g.cs.toList = clG (L ++ [g]) := by rw [clG_app, clG_cons]; simp [encG, clG]
  have e2 : L.length + 1 = (L ++ [g]).length := by simp
  rw [e] at ho
  have sh : ∃ a' c', v' = .slice a' (L.length + 1) c' := by
    rcases ho.2 with ⟨e1, e2⟩ | ⟨g', c', cur, e1, -⟩
    · omega
    · exact ⟨_, _, e1⟩
  obtain ⟨a', c', rfl⟩ := sh
  rw [e2] at ho
  exact ⟨a', c', W', hrun, by rw [← e2] at ho ⊢; exact ho, hgr, hob⟩
/-- One place more. -/
theorem app_pl {b : Nat} {W : World} {v : Value} {L : List Nat} (h : W.ownsRow b 3 1 v L.length (plV L)) (hb : b ≤ W.heap.size) (hl : L.length ≤ 100000) (x : Nat) (g0 sc : Nat) (hc : W.cell? ⟨g0, 0, none⟩ = some (.int .i64 (x : Int))) (t : TypeId) :
    ∃ a' c' W', (Builtin.append_ #[49, 49] t #[v, .slice (some ⟨g0, 0, none⟩) 1 sc]).run Tryd.prog W = .ok (.slice a' (L.length + 1) c') W' ∧ W'.ownsRow b 3 1 (.slice a' (L.length + 1) c') (L ++ [x]).length (plV (L ++ [x])) ∧ W.grownBy W' v.ownBlock ∧ ((Value.slice a' (L.length + 1) c').ownBlock = v.ownBlock ∨ (Value.slice a' (L.length + 1) c').ownBlock = some W.heap.size) := by
  obtain ⟨i, hi, hz0, hz1, hz2⟩ := info_parts Tryd.infoI
  obtain ⟨v', W', hrun, ho, hgr, hnil, hob⟩ := run_append_own_at (P := Tryd.prog) W b 49 t 3 i _ 1 8 Tryd.underlying49 hi hz0 hz1 hz2 rfl (by decide) v L.length _ h ⟨g0, 0, none⟩ 1 sc [.int .i64 (x : Int)] rfl (fun j u hj => by
      rw [Addr.add_lit, Nat.zero_add]
      cases j with
      | zero => simp at hj; subst hj; exact hc
      | succ j => simp at hj) (by
      intro u hu
      simp only [List.mem_cons, List.not_mem_nil, or_false] at hu
      subst hu; rfl) (by unfold maxLen; omega) (by omega) hb
  have e : plV L ++ [.int .i64 (x : Int)] = plV (L ++ [x]) := by simp [plV]
  have e2 : L.length + 1 = (L ++ [x]).length := by simp
  rw [e] at ho
  have sh : ∃ a' c', v' = .slice a' (L.length + 1) c' := by
    rcases ho.2 with ⟨e1, e2⟩ | ⟨g', c', cur, e1, -⟩
    · omega
    · exact ⟨_, _, e1⟩
  obtain ⟨a', c', rfl⟩ := sh
  exact ⟨a', c', W', hrun, by rw [← e2]; exact ho, hgr, hob⟩

section
variable {b : Nat} {w w' : World} {r W mb : Nat} {vl vf : Value} {Sw : Nat → Prop} {c : Nat} {T : List Tm} {A : List (Gm × Nat)} {LY : List Gm} {FR : List Nat} {k now sp nx : Nat}

/-- A cell of what lies at a place. -/
theorem ly_cell {p : Nat} {g : Gm} (h : w.ownsRow b 56 5 vl LY.length (clG LY)) (hp : LY[p]? = some g) : ∃ gl cl, vl = .slice (some ⟨gl, 0, none⟩) LY.length cl ∧ LY.length ≤ cl ∧ cl ≤ 9223372036854775807 ∧ gl < w.heap.size ∧ ∀ j v, g.cs[j]? = some v → w.cell? ⟨gl, p * 5 + j, none⟩ = some v := by
  have hlt := (List.getElem?_eq_some_iff.1 hp).1
  rcases h.2 with ⟨e1, e2⟩ | ⟨gl, cl, cur, e1, q1, q2, q3, q4, q5, q6⟩
  · omega
  · refine ⟨gl, cl, e1, q3, q4, (Array.getElem?_eq_some_iff.1 q2).1, fun j v hv => ?_⟩
    have hj : j < 5 := (Array.getElem?_eq_some_iff.1 hv).1
    have hx : (clG LY)[p * 5 + j]? = some v := clG_get LY p g j v hp (by simpa [encG] using hv)
    rw [← q6, List.getElem?_take, if_pos (by omega), Array.getElem?_toList] at hx
    unfold World.cell?
    rw [q2]
    exact hx

theorem kp_cell {S : Nat → Prop} {X Y : World} (q : Kp S X Y) {g j : Nat} {v : Value} (h : X.cell? ⟨g, j, none⟩ = some v) (hn : ¬ S g) : Y.cell? ⟨g, j, none⟩ = some v := by
  have := q.block g (World.block_lt_of_cell? X _ h) hn
  unfold World.cell? at h ⊢
  simp only [this]
  exact h

theorem arm_any (n1 : ¬ Sw r) (n3 : ∀ g, vl.ownBlock = some g → ¬ Sw g) (hb : Blk w r (rdc now sp nx W mb vl vf) 51) (wl : Wl b w Sw W c T) (ly : w.ownsRow b 56 5 vl LY.length (clG LY)) (p : Nat) (g : Gm) (hp : LY[p]? = some g) (l4 : LY.length ≤ 4096) :
    Calls Tryd.prog 28 #[ptr r, .int .i64 (p : Int)] w fun e w' => e = .returned (.tuple #[]) ∧ ∃ Sw', Wl b w' Sw' W c (armT T p g.at_) ∧ St w w' Sw Sw' := by
  have hc := fun (X : World) (gX : w.grownBy X none) => wl_arm b X Sw W c T (wl.grown gX) p g.at_
  obtain ⟨gl, cl, rfl, q3, q4, ql, cc⟩ := ly_cell ly hp
  have hlt := (List.getElem?_eq_some_iff.1 hp).1
  have x3 := hb.cell 3 (ptr W) rfl
  have x5 := hb.cell 5 (.slice (some ⟨gl, 0, none⟩) LY.length cl) rfl
  have xa := cc 2 (.int .i64 (g.at_ : Int)) rfl
  have p0 : ¬ (p : Int) < 0 := by omega
  have p1 : (p : Int) < (LY.length : Int) := by omega
  have FIN := hide (fun (X Y : World) (S1 : Nat → Prop) (gX : w.grownBy X none) (s : St X Y Sw S1) => And.intro (kp_cell s.kp (cell_grown x3 gX) n1) <| And.intro (kp_cell s.kp (cell_grown x5 gX) n1) <| And.intro (kp_cell s.kp (cell_grown xa gX) (n3 gl rfl)) <| St.tr (St.of (S := Sw) (S' := Sw) (U := fun _ => False) (Kp.grown gX _) (fun _ h => h.elim) (fun _ h => h) (fun _ h => .inl h)) s)
  clear hb wl ly cc q3 hp n1 n3
  generalize LY.length = m at *
  generalize (if armOk (p : Int) (g.at_ : Int) then (0 : Int) else 1) = rr at *
  obtain ⟨TT, hTT⟩ : ∃ TT, TT = armT T p g.at_ := ⟨_, rfl⟩
  rw [← hTT] at hc ⊢
  clear hTT
  go_enter Tryd.func28, Tryd.ntmps28
  go_wp2_with fail
  go_region_held3 (fun Z => Z.cell? ⟨r, 3, none⟩ = some (ptr W) ∧ Z.cell? ⟨r, 5, none⟩ = some (.slice (some ⟨gl, 0, none⟩) m cl) ∧ Z.cell? ⟨gl, p * 5 + 2, none⟩ = some (.int .i64 (g.at_ : Int))) (go_keep) (first
    | (go_at_call 41; refine (hc _ (by first | with_reducible exact World.grownBy.refl _ _ | with_reducible exact grown_drew' (World.grownBy.refl _ _))).mono ?_; rintro e Y ⟨rfl, S1, h1, h2⟩; obtain ⟨y3, y5, ya, h3⟩ := unhide FIN _ Y S1 (by first | with_reducible exact World.grownBy.refl _ _ | with_reducible exact grown_drew' (World.grownBy.refl _ _)) h2; have E := hide (And.intro h1 h3); clear h1 h2 h3))
  go_wp2_with fail
  refine bodyPost_end (results_none rfl _ _ _) rfl ?_
  exact ⟨rfl, S1, unhide E⟩
end
end Go.Proofs.YtbdjlhkgpblebaaDoor
