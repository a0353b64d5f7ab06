/- The reader: value. -/
import Derived.Test.YtmfbbamaleagiaaDoorXD
namespace Go.Proofs.YtmfbbamaleagiaaDoor
open Go.RowKit Go.Maps
set_option linter.unusedVariables false
set_option maxRecDepth 100000
set_option maxHeartbeats 1000000
section
variable {w0 wr : World} {g bm lv : Nat} {a : Option Addr} {l : List Int} {c k : Nat} {cm : List Int} {vs : Ps}

/-- The value's bytes, as they stand in what is read. -/
def ValPost (w0 : World) (g bm lv : Nat) (a : Option Addr) (l : List Int) (c : Nat) (cm : List Int) (vs : Ps) (k n : Nat) (e : Ending) (w' : World) : Prop :=
  ∃ a' c', e = .returned (.tuple #[.slice a' n c', .int .i64 0]) ∧ Rd w' a' ((l.drop k).take n) ∧ n ≤ c' ∧ c' ≤ maxLen ∧ DI w0 w' g bm lv a l c (k + n) cm vs

theorem DI.value_ok (h : DI w0 wr g bm lv a l c k cm vs) (v : Int) (n k1 : Nat) (ht : getF l k = ((n : Int), (k1 : Int), 0)) (hp : k < k1) (hn : k1 + n ≤ l.length) :
    Calls Tryd.prog 48 #[.pointer (some ⟨g, 0, none⟩)] wr (ValPost w0 g bm lv a l c cm vs k1 n) := by
  have hs := h.sized_ok _ ht rfl (by simp only; omega)
  simp only [Int.toNat_natCast] at hs
  have hmx := h.max; have hcp := h.cap; have hpl := h.pl
  have hrd0 := h.rd0
  unfold maxLen at hmx
  have hw1 : IntKind.i64.wrap ((l.length : Int) - k1) = (l.length : Int) - k1 := by rw [IntKind.wrap_i64]; omega
  have hw2 : IntKind.u64.wrap ((l.length : Int) - k1) = (l.length : Int) - k1 := by rw [IntKind.wrap_u64]; omega
  have hw3 : IntKind.i64.wrap (n : Int) = n := by rw [IntKind.wrap_i64]; omega
  have hw4 : IntKind.i64.wrap ((k1 : Int) + n) = (k1 : Int) + n := by rw [IntKind.wrap_i64]; omega
  have hle : (n : Int) ≤ (l.length : Int) - k1 := by omega
  clear h
  go_enter Tryd.func48, Tryd.ntmps48
  go_wp2_with (go_at_call 54; refine hs.mono ?_; rintro e W1 ⟨rfl, D1⟩; have c0 := D1.blk.cell 0 (.slice a l.length c) rfl; have c1 := D1.blk.cell 1 (.int .i64 k1) rfl; have HD := hide D1; clear D1 hs)
  have HQ := hide (And.intro hp (And.intro hn (And.intro hmx (And.intro hcp (And.intro hpl hrd0)))))
  clear hp ht hn hmx hcp hpl hrd0
  have HL : Hid (∃ m, m = l.length) := ⟨_, rfl⟩
  go_quiet (fail)
  have D2 := (unhide HD).drewN nq
  have c0 := D2.blk.cell 0 (.slice a l.length c) rfl
  have c1 := D2.blk.cell 1 (.int .i64 k1) rfl
  have th := D2.blk.thaws
  obtain ⟨hp, hn, hmx, hcp, hpl, hrd0⟩ := unhide HQ
  have D3 : DI w0 ((W1.drewN nq).setCell ⟨g, 1, none⟩ (.int .i64 ((k1 : Int) + n))) g bm lv a l c (k1 + n) cm vs := D2.seek (k1 + n) hn (by have := D2.few; omega)
  have HD3 := hide D3
  have e0 := D3.blk.cell 0 (.slice a l.length c) rfl
  have e1 : ((W1.drewN nq).setCell ⟨g, 1, none⟩ (.int .i64 ((k1 : Int) + n))).cell? ⟨g, 1, none⟩ = some (.int .i64 ((k1 : Int) + n)) := D3.blk.cell 1 _ rfl
  generalize hW2 : W1.drewN nq = W2 at *
  clear HD HQ D2 D3
  go_wp2_with fail
  generalize hW3 : W2.setCell ⟨g, 1, none⟩ (.int .i64 ((k1 : Int) + n)) = W3 at *
  have FIN : Hid (∀ q a' c', Rd W3 a' ((l.drop k1).take n) → n ≤ c' → c' ≤ maxLen → ValPost w0 g bm lv a l c cm vs k1 n (.returned (.tuple #[.slice a' n c', .int .i64 0])) (W3.drewN q)) := fun q a' c' h1 h2 h3 =>
    ⟨a', c', rfl, Rd.drew h1 q, h2, h3, (unhide HD3).drewN q⟩
  have hrd := (unhide HD3).rd
  have i1 : (k1 : Int) ≤ (k1 : Int) + (n : Int) := by omega
  have i2 : (k1 : Int) + (n : Int) ≤ (c : Int) := by omega
  have i3 : k1 ≤ k1 + n := by omega
  have i4 : k1 + n ≤ c := by omega
  have i5 : k1 + n - k1 = n := by omega
  have i6 : ((k1 : Int) + (n : Int)).toNat - k1 = n := by omega
  have hmx' : c ≤ maxLen := by unfold maxLen; omega
  have HN := hide hn
  clear c0 c1 hW2 hW3 hw1 hw2 hw3 hw4 hle HD3 HL hp hcp hmx hrd0 th
  cases a with
  | none =>
    have hl : l = [] := by
      by_cases e : l = []
      · exact e
      · obtain ⟨b, o, e1, -⟩ := hrd.2 e; cases e1
    have h0 : n = 0 ∧ k1 = 0 := by rw [hl] at hn; simp at hn; omega
    have F := hide (fun q c' h2 h3 => unhide FIN q none c' (by rw [hl]; simp; exact ⟨by simp, by simp⟩) h2 h3)
    clear FIN hrd hl hn
    generalize l.length = m at *
    go_quiet (fail)
    go_wp2
    go_ret2
    have := unhide F nq c (by omega) hmx'
    rw [h0.1] at this ⊢
    exact this
  | some x =>
    by_cases hck : c = k1
    · have h0 : n = 0 := by omega
      have F := hide (fun q a' c' h2 h3 => unhide FIN q a' c' (by rw [h0]; simp; exact ⟨by simp, by simp⟩) h2 h3)
      clear FIN hrd hn hpl
      generalize l.length = m at *
      go_quiet (fail)
      go_wp2
      go_ret2
      have := unhide F nq (some x) 0 (by omega) (Nat.zero_le _)
      rw [h0] at this ⊢
      exact this
    · obtain ⟨b, off, rfl⟩ := hpl x rfl (by omega)
      have F := hide (fun q => unhide FIN q (some ⟨b, off + k1, none⟩) (c - k1) (by
        by_cases e : l = []
        · rw [e]; simp; exact ⟨by simp, by simp⟩
        · obtain ⟨b', o', e1, hc⟩ := hrd.2 e
          cases e1
          exact rd_sub0 hrd.1 hc k1 n hn _ (fun _ => rfl)) (by omega) (by omega))
      clear FIN hrd hn hpl
      generalize l.length = m at *
      go_quiet (fail)
      go_wp2
      go_ret2
      have := unhide F nq
      simpa using this
end
end Go.Proofs.YtmfbbamaleagiaaDoor
