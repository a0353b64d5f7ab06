/- Copied. -/
import Derived.Test.YtdmjejfnohhpiaaK4
namespace Go.Proofs.Ytdmjejfnohhpiaa
open Go.RowKit
set_option linter.unusedVariables false
set_option maxRecDepth 100000
set_option maxHeartbeats 1000000

theorem grown_own {w W1 W : World} {r : Option Nat} (h1 : w.grownBy W1 none) (h2 : W1.grownBy W r) (hg : ∀ g, r = some g → w.heap.size ≤ g) : w.grownBy W none :=
  ⟨h2.os.trans h1.os, h2.tape.trans h1.tape, h2.output.trans h1.output, Nat.le_trans h1.size h2.size, fun i hi _ => (h2.block i (Nat.lt_of_lt_of_le hi h1.size) (fun e => by have := hg i e.symm; omega)).trans (h1.block i hi (by simp))⟩
theorem OwnB.block {base : Nat} {w : World} {v : Value} {d : List Int} (h : OwnB base w v d) : ∀ g, v.ownBlock = some g → base ≤ g := fun g e => by
  rcases h.2 with ⟨rfl, -⟩ | ⟨b, cap, cur, rfl, hb, -⟩
  · simp [Value.ownBlock] at e
  · simp [Value.ownBlock] at e; omega
theorem moved_grown {w W1 W : World} {v v' : Value} (h1 : w.grownBy W1 none) (hm : Moved W1 W v v') (hv : ∀ g, v.ownBlock = some g → w.heap.size ≤ g) : w.grownBy W none := by
  rcases hm with ⟨-, h⟩ | ⟨-, h, -⟩
  · exact grown_own h1 h hv
  · exact h1.trans h

theorem copied_any (v : Value) (l : List Int) (w : World) (h : InB w v l) (hb : l.length ≤ 140737488355327) :
    Calls Try.prog 35 #[v] w fun e w' => ∃ v', e = .returned v' ∧ OwnB w.heap.size w' v' l ∧ w.grownBy w' none := by
  obtain ⟨a, c, rfl, hr, h1, h2, -⟩ := h
  have hml : ¬ (9223372036854775807 : Int) < (l.length : Int) := by omega
  have HR := hide hr.2
  clear hr h2
  go_enter Try.func35, Try.ntmps35
  go_wp2_with fail
  go_loopw [3, 4] (fun s i wr => ∃ k : Nat, k ≤ l.length ∧ i = .int .i64 k ∧ OwnB w.heap.size wr s (l.take k) ∧ w.grownBy wr none) (fun _ i _ => l.length - (intOf i).toNat)
  case atStart => exact ⟨0, Nat.zero_le _, rfl, World.ownsRow_nil _ _ _ _, World.grownBy.refl w none⟩
  case round =>
    rename_i s i
    obtain ⟨k, hk, rfl, ho, gw⟩ := hrel
    by_cases hlt : k < l.length
    · obtain ⟨b, off, rfl, hx⟩ := unhide HR (fun e => by rw [e] at hlt; simp at hlt)
      have x0 := cell_grown (hx k hlt) gw
      have i1 : (k : Int) < (l.length : Int) := by omega
      have i2 : decide ((k : Int) < (l.length : Int)) = true := decide_eq_true i1
      have hkl : (l.take k).length = k := by simp; omega
      have e4 : (l.take (k + 1)).length = k + 1 := by simp; omega
      have HX : Hid (∀ v' w', w'.ownsRow w.heap.size 5 1 v' ((l.take k).length + 1) ((l.take k).map (Value.int .u8) ++ [.int .u8 (l.getD k 0)]) → OwnB w.heap.size w' v' (l.take (k + 1))) := fun v' w' h => by
        unfold OwnB
        rw [take_snoc l k hlt, List.map_append, List.length_append]
        exact h
      have hv := ho.block
      have HO := hide ho
      have HG := hide gw
      have hs := gw.size
      obtain ⟨a3, c3, rfl⟩ := ho.shape
      clear hx ho gw
      generalize l.getD k 0 = x at *
      go_wp2_with (at_builtin; refine wpList_app1 _ rfl _ _ rfl w.heap.size _ (l.take k).length _ (unhide HO) rfl (.int .u8 x) rfl rfl (by omega) hs ?_; intro v' w' hown hmv hnil; have o' := unhide HX v' w' hown; have g' := moved_grown ((unhide HG).trans (World.grownBy_alloc wr _ none)) hmv hv; have sh := o'.shape; rw [e4] at sh; obtain ⟨a4, c4, rfl⟩ := sh)
      exact ⟨⟨k + 1, hlt, by go_num, o', g'⟩, by simp [intOf]; omega⟩
    · obtain rfl : k = l.length := by omega
      rw [List.take_length] at ho
      obtain ⟨a3, c3, rfl⟩ := ho.shape
      have F := hide (And.intro ho gw)
      have i1 : ¬ (l.length : Int) < (l.length : Int) := by omega
      clear ho gw
      go_wp2_with fail
      go_ret
      exact ⟨_, rfl, (unhide F).1, (unhide F).2⟩

end Go.Proofs.Ytdmjejfnohhpiaa
