/- Two sets side by side; Clone; alike. -/
import Derived.Test.YthhnemnnfbbamaaSG
import Derived.Laws.StructEq
import Derived.BigQuiet
import Derived.Deep.RegionHeld3
namespace Go.Proofs.Ythhnemnnfbbamaa
open Go.RowKit
set_option linter.unusedVariables false
set_option maxHeartbeats 400000
set_option maxRecDepth 100000

theorem add_post {w : World} {b : Nat} {most : Int} {v : Value} {L : List Sp} (hv : SetAt w b most v L) (hL : Ok L) (lo hi : Int) (hlo : -9223372036854775808 ≤ lo) (hhi : hi ≤ 9223372036854775807) :
    Calls Try.prog 41 #[.pointer (some ⟨b, 0, none⟩), .int .i64 lo, .int .i64 hi] w (AddPost b most v w (addN lo hi L) (addS most lo hi L)) := by
  by_cases hlh : hi < lo
  · refine (add_gt b lo hi w hlh).mono ?_
    rintro e w' ⟨rfl, hg⟩
    unfold addN addS
    rw [if_pos hlh, if_pos hlh]
    exact ⟨rfl, ⟨v, hv.keep hg, .inl rfl⟩, Touch.of b v hg⟩
  · unfold addN addS
    rw [if_neg hlh, if_neg hlh]
    obtain ⟨A, M, D, rfl, hA, hM, hD⟩ := split3 (lo - 1) (hi + 1) hL.good (by omega)
    rw [addF_split hL.good (by omega) hA hM hD]
    exact add_walk b most lo hi v A M D w hv hL (by omega) hlo hhi hA hM hD

theorem cut_post {w : World} {b : Nat} {most : Int} {v : Value} {L : List Sp} (hv : SetAt w b most v L) (hL : Ok L) (lo hi : Int) (hlo : -9223372036854775808 ≤ lo) (hhi : hi ≤ 9223372036854775807) :
    Calls Try.prog 40 #[.pointer (some ⟨b, 0, none⟩), .int .i64 lo, .int .i64 hi] w (AddPost b most v w (cutN lo hi L) (cutS most lo hi L)) := by
  by_cases hlh : hi < lo
  · refine (cut_gt b lo hi w hlh).mono ?_
    rintro e w' ⟨rfl, hw⟩
    subst hw
    unfold cutN cutS
    rw [if_pos hlh, if_pos hlh]
    exact ⟨rfl, ⟨v, hv, .inl rfl⟩, Touch.of b v (grown_self _ _)⟩
  · unfold cutN cutS
    rw [if_neg hlh, if_neg hlh]
    obtain ⟨A, M, D, rfl, hA, hM, hD⟩ := split3 lo hi hL.good (by omega)
    rw [cutF_split hL.good (by omega) hA hM hD]
    by_cases hne : M = []
    · subst hne
      exact cut_none b most lo hi v A D w hv hL (by omega) hlo hhi hA hD
    · exact cut_meet b most lo hi v A M D w hv hL (by omega) hlo hhi hA hM hD hne

theorem Row.blk {W : World} {v : Value} {L : List Sp} (h : Row W v L) : ∀ g, v.ownBlock = some g → ∃ c, W.heap[g]? = some (.cells c 64 (0, 0)) := by
  intro g hg
  rcases Row.at h with ⟨rfl, _⟩ | ⟨g', c, sp, rfl, hR⟩
  · simp [Value.ownBlock] at hg
  · simp [Value.ownBlock] at hg
    subst hg
    exact ⟨_, hR.1⟩

theorem SetAt.lt {w : World} {b : Nat} {most : Int} {v : Value} {L : List Sp} (h : SetAt w b most v L) : b < w.heap.size := (Array.getElem?_eq_some_iff.1 h.blk).1
theorem SetAt.rowlt {w : World} {b : Nat} {most : Int} {v : Value} {L : List Sp} (h : SetAt w b most v L) : ∀ g, v.ownBlock = some g → g < w.heap.size := fun g hg => by
  obtain ⟨c, h1⟩ := h.row.blk g hg
  exact (Array.getElem?_eq_some_iff.1 h1).1
/-- A record is no row. -/
theorem SetAt.norow {w : World} {b b' : Nat} {most : Int} {v v' : Value} {L L' : List Sp} (h : SetAt w b most v L) (h' : Row w v' L') : v'.ownBlock ≠ some b := fun e => by
  obtain ⟨c, h1⟩ := h'.blk b e
  rw [h.blk] at h1
  simp at h1

/-- Two sets that share nothing, made since w0. -/
structure Two (w0 w : World) (b1 : Nat) (m1 : Int) (L1 : List Sp) (b2 : Nat) (m2 : Int) (L2 : List Sp) : Prop where
  ex : ∃ v1 v2, SetAt w b1 m1 v1 L1 ∧ SetAt w b2 m2 v2 L2 ∧ Fresh w0 v1 ∧ Fresh w0 v2 ∧ (∀ g, v1.ownBlock = some g → v2.ownBlock ≠ some g)
  n1 : w0.heap.size ≤ b1
  n2 : w0.heap.size ≤ b2
  ne : b1 ≠ b2
  grown : w0.grownBy w none

section
variable {w0 w w' : World} {b1 b2 : Nat} {m1 m2 : Int} {L1 L2 L1' : List Sp}
theorem Two.fst (h : Two w0 w b1 m1 L1 b2 m2 L2) : LS w0 w b1 m1 L1 := by
  obtain ⟨v1, v2, s1, s2, f1, f2, d⟩ := h.ex
  exact ⟨⟨v1, s1, f1⟩, h.n1, h.grown⟩
theorem Two.swap (h : Two w0 w b1 m1 L1 b2 m2 L2) : Two w0 w b2 m2 L2 b1 m1 L1 := by
  obtain ⟨v1, v2, s1, s2, f1, f2, d⟩ := h.ex
  exact ⟨⟨v2, v1, s2, s1, f2, f1, fun g e e' => d g e' e⟩, h.n2, h.n1, h.ne.symm, h.grown⟩
theorem Two.snd (h : Two w0 w b1 m1 L1 b2 m2 L2) : LS w0 w b2 m2 L2 := h.swap.fst
theorem Two.keep (h : Two w0 w b1 m1 L1 b2 m2 L2) (hg : w.grownBy w' none) : Two w0 w' b1 m1 L1 b2 m2 L2 := by
  obtain ⟨v1, v2, s1, s2, f1, f2, d⟩ := h.ex
  exact ⟨⟨v1, v2, s1.keep hg, s2.keep hg, f1, f2, d⟩, h.n1, h.n2, h.ne, grown_trans h.grown hg⟩
theorem Two.make (h : LS w0 w b1 m1 L1) (k : LS w w' b2 m2 L2) : Two w0 w' b1 m1 L1 b2 m2 L2 := by
  obtain ⟨v1, s1, f1⟩ := h.at_
  obtain ⟨v2, s2, f2⟩ := k.at_
  refine ⟨⟨v1, v2, s1.keep k.grown, s2, f1, fun g e => Nat.le_trans h.grown.size (f2 g e), fun g e e' => ?_⟩, h.new, Nat.le_trans h.grown.size k.new, ?_, grown_trans h.grown k.grown⟩
  · have := s1.rowlt g e
    have := f2 g e'
    omega
  · have := s1.lt
    have := k.new
    omega
theorem Two.post {n : Int} {v1 v2 : Value} {e : Ending} (h : Two w0 w b1 m1 L1 b2 m2 L2) (s1 : SetAt w b1 m1 v1 L1) (s2 : SetAt w b2 m2 v2 L2) (f1 : Fresh w0 v1) (f2 : Fresh w0 v2) (d : ∀ g, v1.ownBlock = some g → v2.ownBlock ≠ some g)
    (hp : AddPost b1 m1 v1 w n L1' e w') : e = .returned (.int .u64 n) ∧ Two w0 w' b1 m1 L1' b2 m2 L2 := by
  obtain ⟨l1, l2⟩ := h.fst.post f1 hp
  refine ⟨l1, ?_⟩
  obtain ⟨he, ⟨v', hs, ho⟩, ht⟩ := hp
  have s2' : SetAt w' b2 m2 v2 L2 := by
    refine ⟨(ht.block b2 s2.lt h.ne.symm (fun e => SetAt.norow (b' := b2) s2 s1.row e.symm)).trans s2.blk, ?_⟩
    rcases Row.at s2.row with ⟨rfl, rfl⟩ | ⟨g, c, sp, rfl, hR⟩
    · exact row_nil _
    · exact RowAt.row ⟨(ht.block g hR.lt (fun e => SetAt.norow (b' := b1) s1 s2.row (by rw [e]; rfl)) (fun e => d g e.symm rfl)).trans hR.1, hR.2⟩
  refine ⟨⟨v', v2, hs, s2', ?_, f2, fun g e e' => ?_⟩, h.n1, h.n2, h.ne, l2.grown⟩
  · rcases ho with ho | ho
    · exact fun k hk => f1 k (by rw [← ho]; exact hk)
    · exact fun k hk => Nat.le_trans h.grown.size (ho k hk)
  · rcases ho with ho | ho
    · exact d g (by rw [← ho]; exact e) e'
    · have := ho g e
      have := s2.rowlt g e'
      omega
end

theorem add_two {w0 w : World} {b1 b2 : Nat} {m1 m2 : Int} {L1 L2 : List Sp} (h : Two w0 w b1 m1 L1 b2 m2 L2) (hL : Ok L1) (lo hi : Int) (hlo : -9223372036854775808 ≤ lo) (hhi : hi ≤ 9223372036854775807) :
    Calls Try.prog 41 #[.pointer (some ⟨b1, 0, none⟩), .int .i64 lo, .int .i64 hi] w fun e w' => e = .returned (.int .u64 (addN lo hi L1)) ∧ Two w0 w' b1 m1 (addS m1 lo hi L1) b2 m2 L2 := by
  obtain ⟨v1, v2, s1, s2, f1, f2, d⟩ := h.ex
  exact (add_post s1 hL lo hi hlo hhi).mono fun e w' hp => h.post s1 s2 f1 f2 d hp
theorem cut_two {w0 w : World} {b1 b2 : Nat} {m1 m2 : Int} {L1 L2 : List Sp} (h : Two w0 w b1 m1 L1 b2 m2 L2) (hL : Ok L1) (lo hi : Int) (hlo : -9223372036854775808 ≤ lo) (hhi : hi ≤ 9223372036854775807) :
    Calls Try.prog 40 #[.pointer (some ⟨b1, 0, none⟩), .int .i64 lo, .int .i64 hi] w fun e w' => e = .returned (.int .u64 (cutN lo hi L1)) ∧ Two w0 w' b1 m1 (cutS m1 lo hi L1) b2 m2 L2 := by
  obtain ⟨v1, v2, s1, s2, f1, f2, d⟩ := h.ex
  exact (cut_post s1 hL lo hi hlo hhi).mono fun e w' hp => h.post s1 s2 f1 f2 d hp

/-- Clone. -/
theorem clone_ls {w0 w : World} {b : Nat} {most : Int} {L : List Sp} (h : LS w0 w b most L) (hL : Ok L) :
    Calls Try.prog 42 #[.pointer (some ⟨b, 0, none⟩)] w fun e w' => ∃ b', e = .returned (.pointer (some ⟨b', 0, none⟩)) ∧ LS w w' b' most L := by
  obtain ⟨v, hv, hf⟩ := h.at_
  have hr := fun q => runs_any b most v L (w.drewN q) (hv.keep (grown_drewN _ q)) (by have := hL.size; omega)
  have c0 := (box2 hv.blk).1
  have hb := hv.lt
  have HK : ∀ W, w.grownBy W none → W.cell? ⟨b, 0, none⟩ = some (.int .i64 most) := fun W hg => cell_grown_none hg c0
  clear hv hf h hL
  go_enter Try.func42, Try.ntmps42
  go_wp2
  go_region_held3 (fun W => W.cell? ⟨b, 0, none⟩ = some (.int .i64 most)) (go_keep) (first | (go_at_call 31; refine (hr 1).mono ?_; rintro e w' ⟨v', rfl, k1, k2, k3⟩; obtain ⟨a', c', rfl, -, -, -⟩ := k1.shape; have hgw := grown_trans (grown_drewN w 1) k3; have y0 := HK w' hgw))
  go_wp2
  go_ret
  exact ⟨_, rfl, ⟨⟨_, ⟨heap_alloc_new w' _, k1.keep (grown_alloc _ _)⟩, k2⟩, hgw.size, grown_trans hgw (grown_alloc _ _)⟩⟩

/-- Spans that a slice reads as. -/
def RdS (w : World) (a : Option Addr) (L : List Sp) : Prop := L ≠ [] → ∃ b off, a = some ⟨b, off, none⟩ ∧ ∀ i, i < L.length → w.cell? ⟨b, off + i * 2, none⟩ = some (.int .i64 (L.getD i (0, 0)).1) ∧ w.cell? ⟨b, off + i * 2 + 1, none⟩ = some (.int .i64 (L.getD i (0, 0)).2)

theorem alike_true (a a' : Option Addr) (n c c' : Nat) (L : List Sp) (w : World) (hn : L.length = n) (h1 : RdS w a L) (h2 : RdS w a' L) (hlen : n ≤ 4611686018427387904) (hc : n ≤ c ∧ c ≤ 9223372036854775807) (hc' : n ≤ c' ∧ c' ≤ 9223372036854775807) :
    Calls Try.prog 38 #[.slice a n c, .slice a' n c'] w fun e w' => e = .returned (.bool true) ∧ ∃ q, w' = w.drewN q := by
  have H1 := hide h1; have H2 := hide h2; have HN := hide hn
  clear h1 h2 hn
  go_enter Try.func38, Try.ntmps38
  go_wp2
  go_loopw [5, 6] (fun ok i wr => ∃ k q : Nat, k ≤ n ∧ ok = .bool true ∧ i = .int .i64 k ∧ wr = w.drewN q) (fun _ i _ => n - (intOf i).toNat)
  case atStart => exact ⟨0, 0, Nat.zero_le _, rfl, rfl, rfl⟩
  case round =>
    obtain ⟨k, q, hk, rfl, rfl, rfl⟩ := hrel
    by_cases hlt : k < n
    · have hkL : k < L.length := by rw [unhide HN]; exact hlt
      have hne : L ≠ [] := fun e => by rw [e] at hkL; simp at hkL
      obtain ⟨g, off, rfl, hx⟩ := unhide H1 hne
      obtain ⟨g', off', rfl, hx'⟩ := unhide H2 hne
      have c0 := (hx k hkL).1
      have c1 := (hx k hkL).2
      have d0 := (hx' k hkL).1
      have d1 := (hx' k hkL).2
      generalize (L.getD k (0, 0)).1 = x at *
      generalize (L.getD k (0, 0)).2 = y at *
      have hkn : (k : Int) < (n : Int) := by omega
      have hkd : decide ((k : Int) < (n : Int)) = true := decide_eq_true hkn
      have HL := hide hlt
      clear hx hx' hkL hne hlt hk
      go_wp2
      go_quiet (fail)
      go_wp2
      exact ⟨⟨k + 1, _, unhide HL, rfl, by go_num, rfl⟩, by simp [intOf]; have := unhide HL; omega⟩
    · obtain rfl : k = n := by omega
      have hno : ¬ (k : Int) < (k : Int) := by omega
      have hnd : decide ((k : Int) < (k : Int)) = false := decide_eq_false hno
      go_wp2
      go_ret
      exact ⟨rfl, q, rfl⟩
end Go.Proofs.Ythhnemnnfbbamaa
