/- PacketRead: the walk. -/
import Derived.Test.YtnglgedcpmbbjaaK7
namespace Go.Proofs.Ytnglgedcpmbbjaa
open Go.RowKit
set_option linter.unusedVariables false
set_option maxRecDepth 100000
set_option maxHeartbeats 1000000

theorem dec_cases (l : List Int) (i n : Int) (G : Lg) (hb : ∀ x ∈ l, IsB x) : (∃ y, y ≠ 0 ∧ decP l i n G = (noP, 0, y)) ∨ (∃ (k e : Nat) (p : Pk), i = k ∧ k ≤ l.length ∧ okG G ∧ (0 ≤ n ∧ n ≤ 20) ∧ decP l i n G = (p, (e : Int), 0) ∧ Got l k n G p e) := by
  unfold decP
  by_cases c : i < 0 ∨ (l.length : Int) < i ∨ ¬ (okG G ∧ 0 ≤ n ∧ n ≤ 20)
  · rw [if_pos c]; exact .inl ⟨1, by decide, rfl⟩
  · rw [if_neg c]
    have hG : okG G ∧ 0 ≤ n ∧ n ≤ 20 := by
      by_cases d : okG G ∧ 0 ≤ n ∧ n ≤ 20
      · exact d
      · exact absurd (.inr (.inr d)) c
    obtain ⟨k, rfl⟩ := Int.eq_ofNat_of_zero_le (show 0 ≤ i by omega)
    by_cases d : (packR l G (k : Int).toNat n).2.2 = 0
    · rw [if_pos d]
      rw [Int.toNat_natCast] at d ⊢
      exact .inr ⟨k, _, _, rfl, by omega, hG.1, hG.2, rfl, pack_got l G hG.1 k (by omega) hb n hG.2 d⟩
    · rw [if_neg d]; exact .inl ⟨_, d, rfl⟩

theorem foundP_back {p : Pk} {G : Lg} (h : wholeV (G.at p.space) (p.number % st p.width) p.width = p.number) : foundP p G = p := by
  unfold foundP; rw [h]

/-- What Encode writes Decode reads. -/
theorem dec_enc (la R : List Int) (p : Pk) (h : Good p) (G : Lg) (hG : okG G) (n : Int) (hn : 0 ≤ n ∧ n ≤ 20) (h2 : p.space = 2 → (p.dst.length : Int) = n ∧ R = []) : decP (la ++ bytesP p ++ R) la.length n G = (foundP p G, ((la.length + (bytesP p).length : Nat) : Int), 0) := by
  have hd : (la ++ bytesP p ++ R).drop la.length = bytesP p ++ R := by rw [List.append_assoc, List.drop_left]
  have e : packR (la ++ bytesP p ++ R) G la.length n = (foundP p G, (la.length + (bytesP p).length, 0)) := by
    rcases h.sp with c | c | c
    · exact long_at h (.inl c) G n hd
    · exact long_at h (.inr c) G n hd
    · obtain ⟨h3, h4⟩ := h2 c
      rw [h4, List.append_nil] at hd ⊢
      rw [List.append_nil] at hd
      rw [← h3]
      exact short_at h c G hd
  unfold decP
  rw [if_neg (by rintro (c | c | c); omega; (simp at c; omega); exact c ⟨hG, hn⟩), Int.toNat_natCast, e]
  rfl

theorem Got.good {l : List Int} {k : Nat} {n : Int} {G : Lg} {p : Pk} {e : Nat} (h : Got l k n G p e) (hy : p.space ≠ 2 → p.width + p.payload.length ≤ 16383) : Good p :=
  ⟨h.sp, h.d, h.s, fun c => (h.s2 c).1, h.w, h.n, hy⟩
theorem Got.long {l : List Int} {k : Nat} {n : Int} {G : Lg} {p : Pk} {e : Nat} (h : Got l k n G p e) (h2 : p.space ≠ 2) (hy : 16383 < p.width + (p.payload.length : Int)) : encE p = 54 := by
  have g1 := h.sp; have g2 := h.d; have g3 := h.s; have g5 := h.w
  unfold encE
  rw [if_neg (by unfold badK; omega), if_neg (by unfold badF; omega), if_pos (by unfold badN; omega)]
theorem good_enc {p : Pk} (h : Good p) : encE p = 0 := by
  rcases encE_cases p with ⟨h1, h2⟩ | ⟨-, -, -, h4, h5, h6⟩ | ⟨-, h, -⟩
  · exfalso
    unfold ovF at h2
    have g1 := h.sp; have g2 := h.d; have g3 := h.s; have g4 := h.s2; have g5 := h.w
    rw [if_neg (by unfold badK; omega), if_neg (by unfold badF; rintro (c | c | ⟨c, d⟩ | c | c); omega; omega; (rw [g4 c] at d; simp at d); omega; omega)] at h2
    exact h2 rfl
  · exfalso
    have g6 := h.n; have g7 := h.y
    unfold badN at h6
    rcases h6 with c | c | ⟨c, d⟩
    · omega
    · omega
    · have := g7 c; omega
  · exact h

theorem EncPost.ok {w : World} {p : Pk} {e : Ending} {w' : World} (h : EncPost w p e w') (hg : Good p) (hb : ∀ x ∈ bytesP p, IsB x) (hm : (bytesP p).length ≤ maxLen) : ∃ g, e = .returned (.tuple #[.slice (some ⟨g, 0, none⟩) (bytesP p).length (bytesP p).length, .int .i64 0]) ∧ InB w' (.slice (some ⟨g, 0, none⟩) (bytesP p).length (bytesP p).length) (bytesP p) ∧ w.grownBy w' none := by
  obtain ⟨⟨h1, -⟩ | ⟨-, -, g, h2, rfl, h3⟩, gr⟩ := h
  · exact absurd (good_enc hg) h1
  · refine ⟨g, rfl, ⟨_, _, rfl, rd_at h3 hb, Nat.le_refl _, hm, fun x e _ => ?_⟩, gr⟩
    cases e
    have hlt : g < w'.heap.size := by
      by_cases c : g < w'.heap.size
      · exact c
      · have : w'.heap[g]? = none := by simp; omega
        rw [this] at h3; simp at h3
    exact ⟨hlt, Nat.ne_of_lt hlt, _, _, rfl⟩

theorem bytesP_byte {p : Pk} (h : Good p) (hd : ∀ x ∈ p.dst, IsB x) (hs : ∀ x ∈ p.src, IsB x) (hy : ∀ x ∈ p.payload, IsB x) : ∀ x ∈ bytesP p, IsB x := by
  have hw := h.w; have hdl := h.d; have hsl := h.s
  intro x hx
  unfold bytesP at hx
  rw [List.mem_flatten] at hx
  obtain ⟨l, hl, hx⟩ := hx
  unfold partsP at hl
  split at hl
  · simp only [List.mem_cons, List.not_mem_nil, or_false] at hl
    rcases hl with rfl | rfl | rfl | rfl
    · simp only [List.mem_cons, List.not_mem_nil, or_false] at hx; subst hx; unfold IsB; omega
    · exact hd x hx
    · exact dig_byte _ _ x hx
    · exact hy x hx
  · rename_i hn
    have hsp : p.space = 0 ∨ p.space = 1 := by have := h.sp; omega
    simp only [List.mem_cons, List.not_mem_nil, or_false] at hl
    rcases hl with rfl | rfl | rfl | rfl | rfl | rfl | rfl | rfl | rfl | rfl
    · simp only [List.mem_cons, List.not_mem_nil, or_false] at hx; subst hx; unfold IsB; omega
    · simp only [List.mem_cons, List.not_mem_nil, or_false] at hx; unfold IsB; omega
    · simp only [List.mem_cons, List.not_mem_nil, or_false] at hx; subst hx; unfold IsB; omega
    · exact hd x hx
    · simp only [List.mem_cons, List.not_mem_nil, or_false] at hx; subst hx; unfold IsB; omega
    · exact hs x hx
    · split at hx
      · simp at hx; subst hx; unfold IsB; omega
      · simp at hx
    · exact layF_byte _ _ (by omega) (.inr (.inl ⟨rfl, h.y hn⟩)) x hx
    · exact dig_byte _ _ x hx
    · exact hy x hx

end Go.Proofs.Ytnglgedcpmbbjaa
