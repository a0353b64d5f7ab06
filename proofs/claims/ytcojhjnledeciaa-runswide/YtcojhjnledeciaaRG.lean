/- SHu and RG, one text. -/
import Derived.Test.YtcojhjnledeciaaSAu
import Derived.Test.YtcojhjnledeciaaRA
import Derived.Test.YtcojhjnledeciaaRS
import Derived.Test.YtcojhjnledeciaaSG
import Derived.BigQuiet
namespace Go.Proofs.Ytcojhjnledeciaa.Ku
open Go.RowKit
set_option linter.unusedVariables false
set_option maxRecDepth 100000
set_option maxHeartbeats 400000

theorem has_any (b : Nat) (most x : Int) (v : Value) (L : List Sp) (w : World) (h0 : SetAt w b most v L) (hL : Ok L) :
    Calls Try.prog 25 #[.pointer (some ⟨b, 0, none⟩), .int .u64 x] w fun e w' => e = .returned (.bool (memB x L)) ∧ w.grownBy w' none := by
  obtain ⟨A, M, D, rfl, hA, hM, hD⟩ := split3 x x hL.good (by omega)
  rw [memB_split hA hM hD]
  have hre := reach_walk b most x x v A M D w h0 hA hM hD (fun s hs => by have := hL.good.left.mem hs; have := hA s hs; omega) (by have := hL.size; omega)
  clear h0 hA hM hD hL
  generalize A.length = i at *
  generalize M.length = m at *
  go_enter Try.func25, Try.ntmps25
  go_wp2_with (go_at_call 50; refine hre.mono ?_; rintro e W ⟨rfl, hg⟩)
  all_goals go_ret
  all_goals exact ⟨by simp; omega, hg⟩

theorem has_ls {w0 w : World} {b : Nat} {most : Int} {L : List Sp} (h : LS w0 w b most L) (hL : Ok L) (x : Int) :
    Calls Try.prog 25 #[.pointer (some ⟨b, 0, none⟩), .int .u64 x] w fun e w' => e = .returned (.bool (memB x L)) ∧ LS w0 w' b most L := by
  obtain ⟨v, hv, hf⟩ := h.at_
  exact (has_any b most x v L w hv hL).mono fun e w' ⟨he, hg⟩ => ⟨he, h.keep hg⟩

theorem within_ls {w0 w : World} {b : Nat} {most : Int} {L : List Sp} (h : LS w0 w b most L) (hL : Ok L) (lo hi : Int) :
    Calls Try.prog 21 #[.pointer (some ⟨b, 0, none⟩), .int .u64 lo, .int .u64 hi] w fun e w' => ∃ v', e = .returned v' ∧ Row w' v' (if hi < lo then [] else withinF lo hi L) ∧ Fresh w v' ∧ LS w0 w' b most L := by
  obtain ⟨v, hv, hf⟩ := h.at_
  by_cases hlh : hi < lo
  · rw [if_pos hlh]
    refine (within_gt b lo hi w hlh).mono ?_
    rintro e w' ⟨rfl, hw⟩
    subst hw
    exact ⟨_, rfl, row_nil _, fresh_nil _, h⟩
  · rw [if_neg hlh]
    exact (within_any b most lo hi v L w hv hL (by omega)).mono fun e w' ⟨v', he, hr, hf', hg⟩ => ⟨v', he, hr, hf', h.keep hg⟩

theorem holes_ls {w0 w : World} {b : Nat} {most : Int} {L : List Sp} (h : LS w0 w b most L) (hL : Ok L) (lo hi : Int) (hlo : 0 ≤ lo) (hhi : hi ≤ 18446744073709551615) :
    Calls Try.prog 23 #[.pointer (some ⟨b, 0, none⟩), .int .u64 lo, .int .u64 hi] w fun e w' => ∃ v', e = .returned v' ∧ Row w' v' (if hi < lo then [] else holesF lo hi L) ∧ Fresh w v' ∧ LS w0 w' b most L := by
  obtain ⟨v, hv, hf⟩ := h.at_
  by_cases hlh : hi < lo
  · rw [if_pos hlh]
    refine (holes_gt b lo hi w hlh).mono ?_
    rintro e w' ⟨rfl, hw⟩
    subst hw
    exact ⟨_, rfl, row_nil _, fresh_nil _, h⟩
  · rw [if_neg hlh]
    exact (holes_any b most lo hi v L w hv hL (by omega) hlo hhi).mono fun e w' ⟨v', he, hr, hf', hg⟩ => ⟨v', he, hr, hf', h.keep hg⟩
end Go.Proofs.Ytcojhjnledeciaa.Ku

namespace Go.Proofs.Ytcojhjnledeciaa.Ku
open Go.RowKit
set_option linter.unusedVariables false
set_option maxHeartbeats 400000
set_option maxRecDepth 100000

theorem add_post {w : World} {b : Nat} {most : Int} {v : Value} {L : List Sp} (hv : SetAt w b most v L) (hL : Ok L) (lo hi : Int) (hlo : 0 ≤ lo) (hhi : hi ≤ 18446744073709551615) :
    Calls Try.prog 17 #[.pointer (some ⟨b, 0, none⟩), .int .u64 lo, .int .u64 hi] w (AddPost b most v w (addN lo hi L) (addS most lo hi L)) := by
  by_cases hlh : hi < lo
  · refine (add_gt b lo hi w hlh).mono ?_
    rintro e w' ⟨rfl, hg⟩
    unfold addN addS
    rw [if_pos hlh, if_pos hlh]
    exact ⟨rfl, ⟨v, hv.keep hg, .inl rfl⟩, Touch.of b v hg⟩
  · unfold addN addS
    rw [if_neg hlh, if_neg hlh]
    obtain ⟨A, M, D, rfl, hA, hM, hD⟩ := split3 (lo - 1) (hi + 1) hL.good (by omega)
    rw [addF_split hL.good (by omega) hA hM hD]
    exact add_walk b most lo hi v A M D w hv hL (by omega) hlo hhi hA hM hD

theorem cut_post {w : World} {b : Nat} {most : Int} {v : Value} {L : List Sp} (hv : SetAt w b most v L) (hL : Ok L) (lo hi : Int) (hlo : 0 ≤ lo) (hhi : hi ≤ 18446744073709551615) :
    Calls Try.prog 15 #[.pointer (some ⟨b, 0, none⟩), .int .u64 lo, .int .u64 hi] w (AddPost b most v w (cutN lo hi L) (cutS most lo hi L)) := by
  by_cases hlh : hi < lo
  · refine (cut_gt b lo hi w hlh).mono ?_
    rintro e w' ⟨rfl, hw⟩
    subst hw
    unfold cutN cutS
    rw [if_pos hlh, if_pos hlh]
    exact ⟨rfl, ⟨v, hv, .inl rfl⟩, Touch.of b v (grown_self _ _)⟩
  · unfold cutN cutS
    rw [if_neg hlh, if_neg hlh]
    obtain ⟨A, M, D, rfl, hA, hM, hD⟩ := split3 lo hi hL.good (by omega)
    rw [cutF_split hL.good (by omega) hA hM hD]
    by_cases hne : M = []
    · subst hne
      exact cut_none b most lo hi v A D w hv hL (by omega) hlo hhi hA hD
    · exact cut_meet b most lo hi v A M D w hv hL (by omega) hlo hhi hA hM hD hne

theorem Row.blk {W : World} {v : Value} {L : List Sp} (h : Row W v L) : ∀ g, v.ownBlock = some g → ∃ c, W.heap[g]? = some (.cells c 90 (0, 0)) := by
  intro g hg
  rcases Row.at h with ⟨rfl, _⟩ | ⟨g', c, sp, rfl, hR⟩
  · simp [Value.ownBlock] at hg
  · simp [Value.ownBlock] at hg
    subst hg
    exact ⟨_, hR.1⟩
end Go.Proofs.Ytcojhjnledeciaa.Ku

namespace Go.Proofs.Ytcojhjnledeciaa.Kr
open Go.RowKit
set_option linter.unusedVariables false
set_option maxHeartbeats 400000
set_option maxRecDepth 100000

theorem Row.blk {W : World} {v : Value} {L : List Sp} (h : Row W v L) : ∀ g, v.ownBlock = some g → ∃ c, W.heap[g]? = some (.cells c 96 (0, 0)) := by
  intro g hg
  rcases Row.at h with ⟨rfl, _⟩ | ⟨g', c, sp, rfl, hR⟩
  · simp [Value.ownBlock] at hg
  · simp [Value.ownBlock] at hg
    subst hg
    exact ⟨_, hR.1⟩

theorem tag_ne {w : World} {j k : Nat} {c c' : Array Value} {t t' : TypeId} (h : w.heap[j]? = some (.cells c t (0, 0))) (h' : w.heap[k]? = some (.cells c' t' (0, 0))) (hne : t ≠ t') : j ≠ k := fun e => by
  rw [e, h'] at h
  simp at h
  exact hne h.2.symm

/-- The program's set and the document's. -/
structure PW (w0 w : World) (bs br : Nat) (most : Int) (Ls Lr : List Sp) : Prop where
  ex : ∃ v u, Ku.SetAt w bs most v Ls ∧ RefAt w br most u Lr ∧ Ku.Fresh w0 v ∧ Fresh w0 u
  n1 : w0.heap.size ≤ bs
  n2 : w0.heap.size ≤ br
  grown : w0.grownBy w none

theorem PW.keep {w0 w w' : World} {bs br : Nat} {most : Int} {Ls Lr : List Sp} (h : PW w0 w bs br most Ls Lr) (hg : w.grownBy w' none) : PW w0 w' bs br most Ls Lr := by
  obtain ⟨v, u, a, b, c, d⟩ := h.ex
  exact ⟨⟨v, u, a.keep hg, b.keep hg, c, d⟩, h.n1, h.n2, grown_trans h.grown hg⟩

theorem PW.set {w0 w w' : World} {bs br : Nat} {most n : Int} {Ls Lr L' : List Sp} {v u : Value} {e : Ending} (h : PW w0 w bs br most Ls Lr) (hv : Ku.SetAt w bs most v Ls) (hu : RefAt w br most u Lr) (fv : Ku.Fresh w0 v) (fu : Fresh w0 u)
    (hp : Ku.AddPost bs most v w n L' e w') : e = .returned (.int .u64 n) ∧ PW w0 w' bs br most L' Lr := by
  obtain ⟨he, ⟨v', hs, ho⟩, ht⟩ := hp
  have hr1 : ∀ (k : Nat) (c : Array Value) (t : TypeId), w.heap[k]? = some (.cells c t (0, 0)) → t ≠ 85 → t ≠ 90 → w'.heap[k]? = some (.cells c t (0, 0)) := fun k c t hk h1 h2 => by
    refine (ht.block k (heap_some_lt hk) (tag_ne hk hv.blk h1) (fun e1 => ?_)).trans hk
    obtain ⟨c', h3⟩ := hv.row.blk k e1.symm
    exact tag_ne hk h3 h2 rfl
  refine ⟨he, ⟨⟨v', u, hs, ⟨hr1 _ _ _ hu.blk (by decide) (by decide), ?_⟩, ?_, fu⟩, h.n1, h.n2, ?_⟩⟩
  · rcases Row.at hu.row with ⟨rfl, rfl⟩ | ⟨g, c, sp, rfl, hR⟩
    · exact row_nil _
    · exact RowAt.row ⟨hr1 _ _ _ hR.1 (by decide) (by decide), hR.2⟩
  · rcases ho with ho | ho
    · exact fun k hk => fv k (by rw [← ho]; exact hk)
    · exact fun k hk => Nat.le_trans h.grown.size (ho k hk)
  · exact ⟨ht.os.trans h.grown.os, ht.tape.trans h.grown.tape, ht.output.trans h.grown.output, Nat.le_trans h.grown.size ht.size, fun k hk _ => by
      rw [ht.block k (Nat.lt_of_lt_of_le hk h.grown.size) (by have := h.n1; omega) (fun e => by have := fv k e.symm; omega)]
      exact h.grown.block k hk (by simp)⟩

theorem PW.ref {w0 w w' : World} {bs br : Nat} {most : Int} {Ls Lr L' : List Sp} {v u : Value} (h : PW w0 w bs br most Ls Lr) (hv : Ku.SetAt w bs most v Ls) (hu : RefAt w br most u Lr) (fv : Ku.Fresh w0 v) (fu : Fresh w0 u)
    (hp : RefPost br most u w L' w') : PW w0 w' bs br most Ls L' := by
  obtain ⟨u', hs, ho, ht⟩ := hp
  have hr1 : ∀ (k : Nat) (c : Array Value) (t : TypeId), w.heap[k]? = some (.cells c t (0, 0)) → t ≠ 28 → w'.heap[k]? = some (.cells c t (0, 0)) := fun k c t hk h1 =>
    (ht.block k (heap_some_lt hk) (fun e => by simp only [Option.some.injEq] at e; exact tag_ne hk hu.blk h1 e)).trans hk
  refine ⟨⟨v, u', ⟨hr1 _ _ _ hv.blk (by decide), ?_⟩, hs, fv, ?_⟩, h.n1, h.n2, ?_⟩
  · rcases Ku.Row.at hv.row with ⟨rfl, rfl⟩ | ⟨g, c, sp, rfl, hR⟩
    · exact Ku.row_nil _
    · exact Ku.RowAt.row ⟨hr1 _ _ _ hR.1 (by decide), hR.2⟩
  · rcases ho with rfl | ho
    · exact fu
    · exact fun k hk => Nat.le_trans h.grown.size (ho k hk)
  · exact grown_fresh h.grown ht (fun k e => by cases e; exact h.n2)

theorem rdU_row {w : World} {a : Option Addr} {n c : Nat} {L : List Sp} (h : Ku.Row w (.slice a n c) L) : RdR w a L := by
  intro hne
  rcases Ku.Row.at h with ⟨e1, e2⟩ | ⟨g, c', sp, e1, e2⟩
  · exact absurd e2 hne
  · simp only [Value.slice.injEq] at e1
    obtain ⟨rfl, -, rfl⟩ := e1
    exact ⟨g, 0, rfl, fun i hi => ⟨by rw [Nat.zero_add]; exact e2.cell _ _ (Ku.cl_lo L i hi), by rw [Nat.zero_add]; exact e2.cell _ _ (Ku.cl_hi L i hi)⟩⟩

theorem Ku_rd {w : World} {v : Value} {L : List Sp} (h : Ku.Row w v L) : ∃ a c, v = .slice a L.length c ∧ RdR w a L ∧ L.length ≤ c ∧ c ≤ 9223372036854775807 := by
  obtain ⟨a, c, rfl, -, k1, k2⟩ := h.shape
  unfold maxLen at k1
  exact ⟨a, c, rfl, rdU_row h, k2, by omega⟩

theorem sameWide_true (a a' : Option Addr) (n c c' : Nat) (L : List Sp) (w : World) (hn : L.length = n) (h1 : RdR w a L) (h2 : RdR w a' L) (hlen : n ≤ 8000000000000) (hc : n ≤ c ∧ c ≤ 9223372036854775807) (hc' : n ≤ c' ∧ c' ≤ 9223372036854775807) :
    Calls Try.prog 19 #[.slice a n c, .slice a' n c'] w fun e w' => e = .returned (.bool true) ∧ w.grownBy w' none := by
  have H1 := hide h1; have H2 := hide h2; have HN := hide hn
  clear h1 h2 hn
  go_enter Try.func19, Try.ntmps19
  go_wp2
  go_loopw [5, 6] (fun ok i wr => ∃ k : Nat, k ≤ n ∧ ok = .bool true ∧ i = .int .i64 k ∧ w.grownBy wr none) (fun _ i _ => n - (intOf i).toNat)
  case atStart => exact ⟨0, Nat.zero_le _, rfl, rfl, grown_self _ _⟩
  case round =>
    obtain ⟨k, hk, rfl, rfl, hgw⟩ := hrel
    by_cases hlt : k < n
    · have hkL : k < L.length := by rw [unhide HN]; exact hlt
      have hne : L ≠ [] := fun e => by rw [e] at hkL; simp at hkL
      obtain ⟨g, off, rfl, hx⟩ := unhide H1 hne
      obtain ⟨g', off', rfl, hx'⟩ := unhide H2 hne
      have c0 := cell_grown_none hgw (hx k hkL).1
      have c1 := cell_grown_none hgw (hx k hkL).2
      have d0 := cell_grown_none hgw (hx' k hkL).1
      have d1 := cell_grown_none hgw (hx' k hkL).2
      generalize (L.getD k (0, 0)).1 = x at *
      generalize (L.getD k (0, 0)).2 = y at *
      have hkn : (k : Int) < (n : Int) := by omega
      have hkd : decide ((k : Int) < (n : Int)) = true := decide_eq_true hkn
      have HL := hide hlt; have HG := hide hgw
      clear hx hx' hkL hne hk hgw
      go_wp2
      go_quiet (fail)
      go_wp2
      exact ⟨⟨k + 1, unhide HL, rfl, by go_num, grown_trans (unhide HG) (grown_drewN _ _)⟩, by simp [intOf]; have := unhide HL; omega⟩
    · obtain rfl : k = n := by omega
      have hno : ¬ (k : Int) < (k : Int) := by omega
      have hnd : decide ((k : Int) < (k : Int)) = false := decide_eq_false hno
      go_wp2
      go_ret
      exact ⟨rfl, hgw⟩
end Go.Proofs.Ytcojhjnledeciaa.Kr
