/- The reader: giveUp, number. -/
import Derived.Test.YtggjeamondampaaFH
import Derived.Test.YtggjeamondampaaFB
import Derived.Recover
import Derived.WalkSmall
import Derived.Deep.RegionHeld3
import Derived.BigQuiet
namespace Go.Proofs.Ytggjeamondampaa
open Go.RowKit
set_option linter.unusedVariables false
set_option maxRecDepth 100000
set_option maxHeartbeats 1000000

/-- A reader's cells. -/
abbrev rdr (b : Value) (at_ why : Int) : Array Value := #[b, .int .i64 at_, .int .i64 why]

theorem giveUp_any (g : Nat) (b : Value) (at_ y why : Int) (w : World) (h : Blk w g (rdr b at_ y) 105) :
    Calls Try.prog 81 #[.pointer (some ⟨g, 0, none⟩), .int .i64 why] w fun e w' => (∃ v : Int, e = .panicked [{ v := .iface 32 (.int .i64 v), recovered := false }]) ∧ w' = w.setCell ⟨g, 2, none⟩ (.int .i64 why) := by
  have c2 := h.cell 2 (.int .i64 y) rfl
  have t2 := h.thaws
  go_enter Try.func81, Try.ntmps81
  go_wp2
  exact ⟨rfl, ⟨_, rfl⟩, rfl⟩

theorem grown_at {w W : World} {g : Nat} (h : w.grownBy W (some g)) (j : Nat) (v : Value) : w.grownBy (W.setCell ⟨g, j, none⟩ v) (some g) := by
  refine ⟨h.os, h.tape, h.output, ?_, ?_⟩
  · show w.heap.size ≤ (W.heap.modify g _).size
    rw [Array.size_modify]; exact h.size
  · intro i hi hn
    have e : (W.setCell ⟨g, j, none⟩ v).heap[i]? = W.heap[i]? := by
      simp only [World.setCell, Array.getElem?_modify]
      rw [if_neg (fun e => hn (by rw [e]))]
    rw [e]; exact h.block i hi hn
theorem grown_any {w W : World} (h : w.grownBy W none) (g : Nat) : w.grownBy W (some g) := ⟨h.os, h.tape, h.output, h.size, fun i hi _ => h.block i hi (by simp)⟩

theorem Blk.drewN {w : World} {g : Nat} {cs : Array Value} {t : TypeId} (h : Blk w g cs t) (q : Nat) : Blk (w.drewN q) g cs t := h
theorem grown_drewN {w W : World} {q : Nat} (g : w.grownBy W none) : w.grownBy (W.drewN q) none := ⟨g.os, g.tape, g.output, g.size, g.block⟩
theorem Rd.drew {w : World} {a : Option Addr} {l : List Int} (h : Rd w a l) (q : Nat) : Rd (w.drewN q) a l := h

theorem number_ok (g : Nat) (a : Option Addr) (l : List Int) (c k : Nat) (y : Int) (w : World) (h : Blk w g (rdr (.slice a l.length c) k y) 105) (hr : Rd w a l) (hc : l.length ≤ c) (hc2 : c ≤ maxLen) (hk : k ≤ l.length)
    (v : Int) (l1 : List Int) (hn : numF (l.drop k) = some (v, l1)) :
    Calls Try.prog 80 #[.pointer (some ⟨g, 0, none⟩)] w fun e w' => e = .returned (.int .i64 v) ∧ Blk w' g (rdr (.slice a l.length c) ((l.length - l1.length : Nat) : Int) y) 105 ∧ w.grownBy w' (some g) := by
  rcases num_link l k hk with ⟨h1, -⟩ | ⟨m, hm1, hm2, hm3, hm4, h5, h6⟩
  · rw [hn] at h1; simp at h1
  obtain ⟨n0, -, -, -, v0, v1, -, -⟩ := numF_some (fun x hx => hr.1 x (List.mem_of_mem_drop hx)) hn
  rw [hn] at h5
  simp only [Option.some.injEq, Prod.mk.injEq] at h5
  rw [← h5.1] at h6
  have hl1 : l.length - l1.length = k + m := by rw [h5.2, List.length_drop]; omega
  have hw : IntKind.i64.wrap v = v := by rw [IntKind.wrap_i64]; unfold MAXN at v1; omega
  rw [hl1, show ((k + m : Nat) : Int) = (k : Int) + (m : Int) by omega]
  have hgt := fun q => get_any a l c k (w.drewN q) (Rd.drew hr q) hc hc2
  rw [h6] at hgt
  have c0 := h.cell 0 (.slice a l.length c) rfl
  have c1 := h.cell 1 (.int .i64 k) rfl
  have t2 := h.thaws
  have H := hide h
  clear h hr hn h5 h6 hl1 v0 v1 hm1 hm2 hm3 hm4 hk hc hc2
  generalize l.length = n at *
  go_enter Try.func80, Try.ntmps80
  go_wp2_with fail
  go_region_held3 (fun W => W.cell? ⟨g, 0, none⟩ = some (.slice a n c) ∧ W.cell? ⟨g, 1, none⟩ = some (.int .i64 k)) (go_keep) (first | (go_at_call 89; refine (hgt 1).mono ?_; rintro e W1 ⟨rfl, q, hq⟩; subst hq))
  go_wp2
  go_ret
  exact ⟨rfl, (Blk.drewN (unhide H) _).setC 1 _, grown_at (grown_any (grown_drewN (World.grownBy.refl w none)) g) 1 _⟩

theorem number_no (g : Nat) (a : Option Addr) (l : List Int) (c k : Nat) (y : Int) (w : World) (h : Blk w g (rdr (.slice a l.length c) k y) 105) (hr : Rd w a l) (hc : l.length ≤ c) (hc2 : c ≤ maxLen) (hk : k ≤ l.length)
    (hn : numF (l.drop k) = none) :
    Calls Try.prog 80 #[.pointer (some ⟨g, 0, none⟩)] w fun e w' => (∃ v : Int, e = .panicked [{ v := .iface 32 (.int .i64 v), recovered := false }]) ∧ Blk w' g (rdr (.slice a l.length c) k 40) 105 ∧ w.grownBy w' (some g) := by
  rcases num_link l k hk with ⟨h1, h6⟩ | ⟨m, hm1, hm2, hm3, hm4, h5, h6⟩
  case inr => rw [hn] at h5; simp at h5
  have hgt := fun q => get_any a l c k (w.drewN q) (Rd.drew hr q) hc hc2
  rw [h6] at hgt
  have c0 := h.cell 0 (.slice a l.length c) rfl
  have c1 := h.cell 1 (.int .i64 k) rfl
  have t2 := h.thaws
  have H := hide h
  have hup := fun q => giveUp_any g (.slice a l.length c) k y 40 (w.drewN q) (h.drewN q)
  clear h hr hn h1 h6 hk hc hc2
  generalize l.length = n at *
  go_enter Try.func80, Try.ntmps80
  go_wp2_with fail
  go_region_held3 (fun W => W.cell? ⟨g, 0, none⟩ = some (.slice a n c) ∧ W.cell? ⟨g, 1, none⟩ = some (.int .i64 k)) (go_keep) (first | (go_at_call 89; refine (hgt 1).mono ?_; rintro e W1 ⟨rfl, q, hq⟩; subst hq))
  go_wp2_with (first | (go_at_call 81; refine (hup _).mono ?_; rintro e W2 ⟨⟨pv, rfl⟩, hw2⟩; subst hw2))
  exact ⟨rfl, ⟨_, rfl⟩, (Blk.drewN (unhide H) _).setC 2 _, grown_at (grown_any (grown_drewN (World.grownBy.refl w none)) g) 2 _⟩

end Go.Proofs.Ytggjeamondampaa
