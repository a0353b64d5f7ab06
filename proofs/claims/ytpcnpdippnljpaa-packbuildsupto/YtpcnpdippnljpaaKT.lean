/- The reader of packets: bytes. -/
import Derived.Test.YtpcnpdippnljpaaKS
import Derived.Deep.RegionHeldLaw
namespace Go.Proofs.Ytpcnpdippnljpaa
open Go.RowKit
set_option linter.unusedVariables false
set_option maxRecDepth 100000
set_option maxHeartbeats 1000000

/-- What a step of the reader leaves that tells bytes. -/
def WentB (g : Nat) (a : Option Addr) (l : List Int) (c : Nat) (G : Lg) (w : World) (r : List Int × St) (e : Ending) (w' : World) : Prop :=
  ∃ v', e = .returned v' ∧ OwnB w.heap.size w' v' r.1 ∧ Rdk w' g a l c G r.2 ∧ w.grownBy w' (some g)

theorem rPass_ge (l : List Int) (s : St) (n : Int) : s.1 ≤ (rPass l s n).1 := by
  unfold rPass
  split
  · split
    · simp
    · simp
  · exact Nat.le_refl _

theorem Rdk.bytes {w : World} {g : Nat} {a : Option Addr} {l : List Int} {c : Nat} {G : Lg} {s : St} (h : Rdk w g a l c G s) (hb : l.length ≤ 140737488355328) (n : Int) (hn : 0 ≤ n ∧ n < 18446744073709551616) :
    Calls Try.prog 81 #[.pointer (some ⟨g, 0, none⟩), .int .u64 n] w (WentB g a l c G w (rBytes l s n)) := by
  have hp := h.pass n hn
  have hge := rPass_ge l s n
  have c1 := h.blk.cell 1 (.int .i64 s.1) rfl
  unfold rBytes
  generalize rPass l s n = S at *
  obtain ⟨k, y⟩ := s
  obtain ⟨k2, y2⟩ := S
  simp only at hge c1 ⊢
  obtain ⟨m, rfl⟩ := Nat.exists_eq_add_of_le hge
  rw [show k + m - k = m by omega]
  clear hge
  go_enter Try.func81, Try.ntmps81
  go_wp2_with fail
  refine hp.mono ?_
  rintro e W ⟨rfl, R, gW⟩
  go_wp2_with fail
  have hm : k + m ≤ l.length := R.at_
  have hdl : ((l.drop k).take m).length = m := by rw [List.length_take, List.length_drop]; omega
  have FIN : Hid (∀ W v', OwnB w.heap.size W v' ((l.drop k).take m) → Rdk W g a l c G (k + m, y2) → w.grownBy W (some g) → WentB g a l c G w ((l.drop k).take m, (k + m, y2)) (.returned v') W) := fun W v' o1 r1 g1 =>
    ⟨v', rfl, o1, r1, g1⟩
  have hcap := R.cap
  have hmax := R.max
  unfold maxLen at hmax
  have d0 := R.blk.cell 0 (.slice a l.length c) rfl
  have d1 : W.cell? ⟨g, 1, none⟩ = some (.int .i64 ((k : Int) + (m : Int))) := R.blk.cell 1 _ rfl
  have i1 : (k : Int) ≤ (k : Int) + (m : Int) := by omega
  have i2 : (k : Int) + (m : Int) ≤ (c : Int) := by omega
  have i3 : k ≤ k + m := by omega
  have i4 : k + m ≤ c := by omega
  have RW := hide R; have GW := hide gW
  have gD : W.grownBy W.drew none := ⟨rfl, rfl, rfl, Nat.le_refl _, fun _ _ _ => rfl⟩
  clear h hp c1 hn
  rcases Nat.eq_zero_or_pos m with hm0 | hpos
  · have hd0 : (l.drop k).take m = [] := by rw [hm0]; simp
    have o0 : OwnB w.heap.size W.drew (.slice none 0 0) ((l.drop k).take m) := by rw [hd0]; exact World.ownsRow_nil _ _ _ _
    have E := hide (unhide FIN W.drew (.slice none 0 0) o0 ((unhide RW).grown gD) ((unhide GW).trans (grown_any gD g)))
    have hkm : ((k : Int) + (m : Int)).toNat - k = 0 := by omega
    have pl := R.pl
    clear R gW hdl FIN RW GW hm hb hcap hmax
    cases a with
    | none =>
      generalize l.length = nl at *
      go_region_held_law (fun w' => w'.cell? ⟨g, 0, none⟩ = some (.slice none nl c) ∧ w'.cell? ⟨g, 1, none⟩ = some (.int .i64 ((k : Int) + (m : Int)))) (go_keep) (refine step_append_run rfl _ _ 27 27 rfl (.slice none 0 0) (.slice none 0 (c - k)) (by simp [Act.eval]) (by simp [Act.eval] <;> omega) (app_none _ _ _ _) ?_)
      simp only [List.getElem_toArray, List.getElem_cons_succ, List.getElem_cons_zero]
      go_wp2
      go_ret
      exact unhide E
    | some x =>
      generalize l.length = nl at *
      by_cases hck : c = k
      · clear pl
        go_region_held_law (fun w' => w'.cell? ⟨g, 0, none⟩ = some (.slice (some x) nl c) ∧ w'.cell? ⟨g, 1, none⟩ = some (.int .i64 ((k : Int) + (m : Int)))) (go_keep) (refine step_append_run rfl _ _ 27 27 rfl (.slice none 0 0) (.slice (some x) 0 0) (by simp [Act.eval]) (by simp [Act.eval] <;> omega) (app_none _ _ _ _) ?_)
        simp only [List.getElem_toArray, List.getElem_cons_succ, List.getElem_cons_zero]
        go_wp2
        go_ret
        exact unhide E
      · obtain ⟨b, off', rfl⟩ := pl x rfl (by omega)
        clear pl
        go_region_held_law (fun w' => w'.cell? ⟨g, 0, none⟩ = some (.slice (some ⟨b, off', none⟩) nl c) ∧ w'.cell? ⟨g, 1, none⟩ = some (.int .i64 ((k : Int) + (m : Int)))) (go_keep) (refine step_append_run rfl _ _ 27 27 rfl (.slice none 0 0) (.slice (some ⟨b, off' + k, none⟩) 0 (c - k)) (by simp [Act.eval]) (by simp [Act.eval] <;> omega) (app_none _ _ _ _) ?_)
        simp only [List.getElem_toArray, List.getElem_cons_succ, List.getElem_cons_zero]
        go_wp2
        go_ret
        exact unhide E
  · have hKl : k < l.length := by omega
    obtain ⟨b, off', rfl, hcs⟩ := R.rd.2 (fun e => by rw [e] at hKl; simp at hKl)
    obtain ⟨v7, W7, hr7, o7, g7⟩ := app_bytes W.drew b (off' + k) m (c - k) ((l.drop k).take m) hdl hpos (by omega) (fun i hi => by
      have := hcs (k + i) (by omega)
      have e : ((l.drop k).take m).getD i 0 = l.getD (k + i) 0 := by simp [List.getD, hi]
      rw [e, show off' + k + i = off' + (k + i) by omega]
      exact this)
    have hne : ¬ c = k := by omega
    have e0 := ((R.blk.drew).grown g7).cell 0 (.slice (some ⟨b, off', none⟩) l.length c) rfl
    have e1 : W7.cell? ⟨g, 1, none⟩ = some (.int .i64 ((k : Int) + (m : Int))) := ((R.blk.drew).grown g7).cell 1 _ rfl
    have E := hide (unhide FIN W7 v7 (o7.mono gW.size) ((unhide RW).grown (gD.trans g7)) ((unhide GW).trans (grown_any (gD.trans g7) g)))
    obtain ⟨a7, c7, rfl⟩ := o7.shape
    clear hcs R gW o7 g7 hdl FIN RW GW hm hb hcap hmax hpos
    generalize ((l.drop k).take m).length = n7 at *
    generalize l.length = nl at *
    go_region_held_law (fun w' => w'.cell? ⟨g, 0, none⟩ = some (.slice (some ⟨b, off', none⟩) nl c) ∧ w'.cell? ⟨g, 1, none⟩ = some (.int .i64 ((k : Int) + (m : Int)))) (go_keep) (refine step_append_run rfl _ _ 27 27 rfl _ _ (by simp [Act.eval]) (by simp [Act.eval] <;> omega) (hr7 _) ?_)
    simp only [List.getElem_toArray, List.getElem_cons_succ, List.getElem_cons_zero]
    go_wp2
    go_ret
    exact unhide E

end Go.Proofs.Ytpcnpdippnljpaa
