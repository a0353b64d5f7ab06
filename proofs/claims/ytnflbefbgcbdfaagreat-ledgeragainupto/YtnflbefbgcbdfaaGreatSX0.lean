/- keepBound whole, and small things for Add and Cut. -/
import Derived.Test.YtnflbefbgcbdfaaGreatSW
namespace Go.Proofs.YtnflbefbgcbdfaaGreat
set_option maxRecDepth 100000
open Go.RowKit
set_option linter.unusedVariables false
set_option maxHeartbeats 400000

/-- keepBound. -/
theorem keep_any (b : Nat) (most : Int) (v : Value) (L : List Sp) (w : World) (h0 : SetAt w b most v L) :
    Calls Tryz.prog 71 #[.pointer (some ⟨b, 0, none⟩)] w fun e w' => e = .returned (.tuple #[]) ∧ (∃ v', SetAt w' b most v' (boundF most L) ∧ v'.ownBlock = v.ownBlock) ∧ Touch w w' b v := by
  unfold boundF
  by_cases h : 0 < most ∧ most < L.length
  · rw [if_pos h]
    exact keep_cut b most v L w h0 h.1 h.2
  · rw [if_neg h]
    refine (keep_not b most v L w h0 h).mono ?_
    rintro e w' ⟨rfl, q, rfl⟩
    exact ⟨rfl, ⟨v, h0.keep (grown_drewN _ _), rfl⟩, Touch.of b v (grown_drewN _ _)⟩

theorem enters_replace : Enters Tryz.prog 70 := Go.Proofs.enters_of Tryz.func70 (by kernel_rfl) rfl

theorem drewN2_grown {W1 W3 U : World} {q1 : Nat} (hU : W1.grownBy W3 none) (h : ∃ q, U = (W3.drewN q1).drewN q) : W1.grownBy U none := by
  obtain ⟨q2, rfl⟩ := h
  exact grown_trans (grown_trans hU (grown_drewN _ _)) (grown_drewN _ _)

/-- What Add hands back and leaves. -/
def AddPost (b : Nat) (most : Int) (v : Value) (w : World) (n : Int) (L' : List Sp) (e : Ending) (w' : World) : Prop :=
  e = .returned (.int .u64 n) ∧ (∃ v', SetAt w' b most v' L' ∧ (v'.ownBlock = v.ownBlock ∨ Fresh w v')) ∧ Touch w w' b v

theorem cell_set_other {w : World} {a c : Addr} {x y : Value} (h : w.cell? a = some x) (hne : a.block ≠ c.block) : (w.setCell c y).cell? a = some x := by
  rw [World.cell?_of_block (w := w) (w' := w.setCell c y) (heap_setCell_other w c a.block y hne)]; exact h

theorem heap_ne {w : World} {j k : Nat} {c c' : Array Value} {t t' : TypeId} {f f' : Nat × Nat} (h : w.heap[j]? = some (.cells c t f)) (h' : w.heap[k]? = some (.cells c' t' f')) (hne : t ≠ t') : j ≠ k := fun e => by
  rw [e, h'] at h
  injection h with h
  injection h with _ h
  exact hne h.symm

theorem Moved.cell {w w' : World} {v v' : Value} (hm : Moved w w' v v') {a : Addr} {x : Value} (hc : w.cell? a = some x) (hne : v.ownBlock ≠ some a.block) : w'.cell? a = some x := by
  have hlt := World.block_lt_of_cell? _ _ hc
  rcases hm with ⟨_, h2⟩ | ⟨_, h2, _⟩
  · rw [World.cell?_of_block (w := w) (w' := w') (h2.block _ hlt (fun e => hne e.symm))]; exact hc
  · rw [World.cell?_of_block (w := w) (w' := w') (h2.block _ hlt (by simp))]; exact hc

/-- A row's block bears the mark of spans: whatever bears another is another. -/
theorem Row.ne_of {w : World} {v : Value} {L : List Sp} (h : Row w v L) {k : Nat} {cs : Array Value} {t : TypeId} {fr : Nat × Nat} (hk : w.heap[k]? = some (.cells cs t fr)) (ht : t ≠ 63) : v.ownBlock ≠ some k := fun e => by
  rcases Row.at h with ⟨rfl, _⟩ | ⟨g, c, sp, rfl, hR⟩
  · cases e
  · injection e with e
    have e' : g = k := e
    have h1 := hR.1
    rw [e', hk] at h1
    injection h1 with h1
    injection h1 with _ h1
    exact ht h1


/-- Fewer or as many: what may be counted. -/
theorem Ok.within {L : List Sp} (h : Ok L) {lo hi : Int} (hlh : lo ≤ hi) (hlo : -9223372036854775808 ≤ lo) (hhi : hi ≤ 9223372036854775807) : Ok (withinF lo hi L) :=
  ⟨((within_good h.good hlh).mono (by omega)).top (by omega), Nat.le_trans (withinF_length lo hi L) h.size⟩
theorem Good.okh {L : List Sp} {lo hi : Int} (h : Good lo hi L) (hlo : -9223372036854775808 ≤ lo) (hhi : hi ≤ 9223372036854775807) (hn : L.length ≤ 8000000000000) : Ok L := ⟨(h.mono hlo).top hhi, hn⟩

/-- What is there behind Replace, and behind the store that follows. -/
structure CutPost (X w' : World) (b : Nat) (most : Int) (v v' : Value) (L' : List Sp) : Prop where
  c1 : w'.cell? ⟨b, 1, none⟩ = some v
  f1 : w'.frozen? ⟨b, 1, none⟩ = false
  set : SetAt (w'.setCell ⟨b, 1, none⟩ v') b most v' L'
  own : v'.ownBlock = v.ownBlock ∨ Fresh X v'
  touch : Touch X (w'.setCell ⟨b, 1, none⟩ v') b v
  shape : ∃ a n c, v' = .slice a n c

/-- Replace in Cut. -/
theorem cut_replace (X : World) (b : Nat) (most : Int) (v rv : Value) (A M D V : List Sp) (h0 : SetAt X b most v (A ++ (M ++ D))) (hL : Ok (A ++ (M ++ D))) (hV : V.length ≤ 2) (hrv : Row X rv V) (hnil : V = [] → rv = .slice none 0 0) (hne : ∀ k, rv.ownBlock = some k → v.ownBlock ≠ some k) :
    Calls Tryz.prog 70 #[v, .int .i64 A.length, .int .i64 ((A.length + M.length : Nat) : Int), rv] X fun e w' => ∃ v', e = .returned v' ∧ CutPost X w' b most v v' (A ++ (V ++ D)) := by
  have hs := hL.size
  simp only [List.length_append] at hs
  have hVs : Vs X v rv V := by
    by_cases h : V = []
    · exact .inl ⟨h, hnil h⟩
    · rcases Row.at hrv with ⟨_, h1⟩ | ⟨g, c, sp, h1, hR⟩
      · exact absurd h1 h
      · exact .inr ⟨h, g, c, h1, hR.lt, fun k hk e => hne g (by rw [h1]; rfl) (by rw [hk, e]), sp, hR.1⟩
  refine (replace_any v rv A M D V X h0.row hVs (by omega)).mono ?_
  rintro e w' ⟨v', rfl, hr, hm⟩
  have hw := setAt_write h0 hr hm
  refine ⟨v', rfl, ⟨by simp [World.cell?, hw.2], by simp [World.frozen?, hw.2], hw.1, ?_, Touch.write hm _, by obtain ⟨a, c, e, _⟩ := hr.shape; exact ⟨a, _, c, e⟩⟩⟩
  rcases hm with ⟨h1, _⟩ | ⟨h1, _, _⟩
  · exact .inl h1
  · exact .inr fun k hk => by rw [h1] at hk; injection hk with hk; omega

/-- The end of Add and of Cut: behind the store the bound is kept. -/
theorem post_end {w X w1 w2 : World} {b : Nat} {most n : Int} {v v1 v2 : Value} {L1 : List Sp} (hgX : w.grownBy X none) (own : v1.ownBlock = v.ownBlock ∨ Fresh X v1) (t1 : Touch X w1 b v) (hs : SetAt w2 b most v2 (boundF most L1)) (ho : v2.ownBlock = v1.ownBlock) (t2 : Touch w1 w2 b v1) :
    AddPost b most v w n (boundF most L1) (.returned (.int .u64 n)) w2 := by
  have own' : v1.ownBlock = v.ownBlock ∨ ∀ k, v1.ownBlock = some k → w.heap.size ≤ k := own.imp id fun h k hk => Nat.le_trans hgX.size (h k hk)
  refine ⟨rfl, ⟨v2, hs, ?_⟩, (Touch.before hgX t1).trans own' t2⟩
  rcases own' with h | h
  · exact .inl (ho.trans h)
  · exact .inr fun k hk => h k (by rw [← ho]; exact hk)
end Go.Proofs.YtnflbefbgcbdfaaGreat
