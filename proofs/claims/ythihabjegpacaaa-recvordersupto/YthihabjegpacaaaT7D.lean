/- What a step of RecvBounds leaves, by numbers. No program in sight. -/
import Derived.Test.YthihabjegpacaaaT7B
namespace Go.Proofs.Ythihabjegpacaaa
set_option linter.unusedVariables false
set_option maxRecDepth 100000
set_option maxHeartbeats 1000000

/-- What has come is no more than so many bytes. -/
def Few (S : Rv) (t : Nat) : Prop := ∃ L : List Int, L.length ≤ t ∧ ∀ x, (S.T x).isSome = true → x ∈ L
theorem few_aux (lo : Int) : ∀ (n : Nat) (L : List Int), (∀ i : Nat, i < n → lo + i ∈ L) → n ≤ L.length
  | 0, _, _ => Nat.zero_le _
  | n + 1, L, h => by
    have hm := h n (by omega)
    have h1 := few_aux lo n (L.erase (lo + n)) (fun i hi => (List.mem_erase_of_ne (by omega)).2 (h i (by omega)))
    rw [List.length_erase_of_mem hm] at h1
    have := List.length_pos_of_mem hm
    omega
theorem Few.row {S : Rv} {t : Nat} (h : Few S t) {most : Int} {n : Nat} (hn : RowN S most n) : n ≤ t := by
  obtain ⟨L, hl, hm⟩ := h
  have := few_aux S.read n L (fun i hi => hm _ (hn.got i hi))
  omega

/-- What a step leaves. -/
structure StB (S S' : Rv) (n f : Int) (got d : Nat) : Prop where
  ok : RvOk S'
  n0 : 0 ≤ n
  nf : f ≠ 0 → n = 0
  hi : S'.high = S.high + n
  rd : S'.read = S.read + got
  lm : S.limit ≤ S'.limit
  len : S'.K.length ≤ S.K.length + 1
  few : ∀ t, Few S t → Few S' (t + d)

theorem stb_self {S : Rv} (h : RvOk S) (d : Nat) : StB S S 0 0 0 d := ⟨h, by omega, fun _ => rfl, by omega, by omega, by omega, by omega, fun t ⟨L, h1, h2⟩ => ⟨L, by omega, h2⟩⟩
theorem stb_no {S : Rv} (h : RvOk S) (f : Int) (d : Nat) : StB S S 0 f 0 d := ⟨h, by omega, fun _ => rfl, by omega, by omega, by omega, by omega, fun t ⟨L, h1, h2⟩ => ⟨L, by omega, h2⟩⟩
theorem stb_take {S : Rv} (h : RvOk S) (off : Int) (p : List Int) (fin : Bool) (hb : ∀ y ∈ p, IsB y) : StB S (takeS S off p fin) (takeN S off p.length fin) (takeE S off p.length fin) 0 p.length := by
  unfold takeS takeN
  by_cases he : takeE S off p.length fin = 0
  · rw [if_pos he, if_pos he]
    obtain ⟨t1, t2, t3, t4⟩ := takeE_0 he
    have hlm := h.lm
    refine ⟨rvok_take h hb he, by unfold riseN; omega, fun q => absurd he q, ?_, by simp [takeG], by simp [takeG], ?_, fun t ⟨L, h1, h2⟩ => ⟨L ++ (List.range p.length).map (fun i : Nat => off + (i : Int)), by simp; omega, fun x hx => ?_⟩⟩
    · show max S.high (off + p.length) = S.high + riseN S (off + p.length)
      unfold riseN; omega
    · show (if S.reset = true then S.K else addS 0 off (off + p.length - 1) S.K).length ≤ _
      split
      · omega
      · exact (addS_gx (rv_gx h) (by omega) (by omega)).2
    · have hx' : ((if S.reset = true then S.T else putT S.T off p) x).isSome = true := hx
      rw [List.mem_append]
      split at hx'
      · exact .inl (h2 x hx')
      · rcases (putT_isSome _ _ _ _).1 hx' with q | q
        · exact .inl (h2 x q)
        · exact .inr (List.mem_map.2 ⟨(x - off).toNat, by simp; omega, by omega⟩)
  · rw [if_neg he, if_neg he]
    exact stb_no h _ _
theorem stb_read {S : Rv} (h : RvOk S) {most : Int} {n : Nat} (hn : RowN S most n) : StB S (readS S n) 0 0 n 0 :=
  ⟨rvok_read h hn, by omega, fun _ => rfl, by simp [readS], by simp [readS], by simp [readS], by simp [readS], fun t q => q⟩
theorem stb_raise {S : Rv} (h : RvOk S) (l : Int) : StB S (raiseS S l) 0 0 0 0 :=
  ⟨rvok_raise h l, by omega, fun _ => rfl, by simp [raiseS], by simp [raiseS], by simp only [raiseS]; omega, by simp [raiseS], fun t q => q⟩
theorem stb_reset {S : Rv} (h : RvOk S) (f : Int) : StB S (resetS S f) (resetN S f) (resetE S f) 0 0 := by
  unfold resetS resetN
  by_cases he : resetE S f = 0
  · rw [if_pos he, if_pos he]
    obtain ⟨t1, t2, t3, t4⟩ := resetE_0 he
    have hhl := h.hl; have hlm := h.lm; have hrh := h.rh; have hr0 := h.r0
    refine ⟨rvok_reset h he, by unfold riseN; omega, fun q => absurd he q, ?_, ?_, ?_, ?_, fun t ⟨L, h1, h2⟩ => ⟨L, by omega, fun x hx => h2 x ?_⟩⟩
    · show max S.high f = S.high + riseN S f
      unfold riseN; omega
    · unfold resetG; cases S.ended <;> simp [dropS]
    · unfold resetG; cases S.ended <;> simp [dropS]
    · unfold resetG
      cases S.ended
      · have := (addS_gx (L := []) (lo := 0) (hi := S.read - 1) trivial (by omega) (by omega)).2
        simp [dropS]
        simp at this
        omega
      · simp
    · unfold resetG at hx
      cases he : S.ended
      · rw [he] at hx
        simp [dropS] at hx
        split at hx
        · exact hx
        · cases hx
      · rw [he] at hx
        simpa using hx
  · rw [if_neg he, if_neg he]
    exact stb_no h _ _

theorem StB.more {S S' : Rv} {n f : Int} {got : Nat} (h : StB S S' n f got 0) (d : Nat) : StB S S' n f got d := ⟨h.ok, h.n0, h.nf, h.hi, h.rd, h.lm, h.len, fun t q => by
  obtain ⟨L, h1, h2⟩ := h.few t q
  exact ⟨L, by omega, h2⟩⟩

/-- The first run holds what was read. -/
theorem head_run {S : Rv} (h : RvOk S) (hr : 0 < S.read) : ∃ s L, S.K = s :: L ∧ s.1 = 0 ∧ S.read - 1 ≤ s.2 := by
  have hg := h.gK
  have hm : ∀ x, 0 ≤ x → x < S.read → memB x S.K = true := fun x h0 h1 => by rw [h.kT]; exact h.low x h0 h1
  cases hK : S.K with
  | nil => have := hm 0 (by omega) hr; rw [hK] at this; cases this
  | cons s L =>
    rw [hK] at hg hm
    obtain ⟨g1, g2, g3, g4⟩ := hg
    refine ⟨s, L, rfl, ?_, ?_⟩
    · have := hm 0 (by omega) hr
      rw [memB_cons] at this
      simp only [Bool.or_eq_true, Bool.and_eq_true, decide_eq_true_eq] at this
      rcases this with q | q
      · omega
      · have := memB_in g4 q; omega
    · by_cases c : S.read - 1 ≤ s.2
      · exact c
      · have := hm (s.2 + 1) (by omega) (by omega)
        rw [memB_cons] at this
        simp only [Bool.or_eq_true, Bool.and_eq_true, decide_eq_true_eq] at this
        rcases this with q | q
        · omega
        · have := memB_in g4 q; omega
theorem cnt_read {S : Rv} (h : RvOk S) : S.read ≤ cnt S.K ∧ cnt S.K ≤ S.high := by
  have hr0 := h.r0; have hrh := h.rh
  have hb := cnt_bounds h.gK (by omega)
  refine ⟨?_, by omega⟩
  by_cases c : 0 < S.read
  · obtain ⟨s, L, e, e1, e2⟩ := head_run h c
    have hg := h.gK
    rw [e] at hg
    have := cnt_bounds hg.2.2.2
    rw [e]
    simp only [cnt]
    have h3 := hg.2.2.1; have h2 := hg.2.1
    by_cases c2 : s.2 + 2 ≤ S.high - 1 + 1
    · have := this c2; omega
    · have : L = [] := by
        cases L with
        | nil => rfl
        | cons t L => have := hg.2.2.2.1; have := hg.2.2.2.2.1; have := hg.2.2.2.2.2.1; omega
      subst this
      simp only [cnt]
      omega
  · omega
end Go.Proofs.Ythihabjegpacaaa
