/- TB0 and OA, one text. -/
import Derived.Test.YtcojhjnledeciaaSG
import Derived.Test.YtcojhjnledeciaaRA
namespace Go.Proofs.Ytcojhjnledeciaa
open Go.RowKit
set_option linter.unusedVariables false
set_option maxRecDepth 100000
set_option maxHeartbeats 400000

/-- What Of makes of spans in the order in which they are put in. -/
def putL : List Sp → List Sp → List Sp
  | L, [] => L
  | L, s :: P => putL (addS 0 s.1 s.2 L) P

theorem putL_append (L A B : List Sp) : putL L (A ++ B) = putL (putL L A) B := by
  induction A generalizing L with
  | nil => rfl
  | cons s A ih => exact ih _

/-- Spans of int64. -/
def InB (P : List Sp) : Prop := ∀ s ∈ P, -9223372036854775808 ≤ s.1 ∧ s.2 ≤ 9223372036854775807

theorem putL_good {L P : List Sp} (h : Good (-9223372036854775808) 9223372036854775807 L) (hP : InB P) : Good (-9223372036854775808) 9223372036854775807 (putL L P) ∧ (putL L P).length ≤ L.length + P.length := by
  induction P generalizing L with
  | nil => exact ⟨h, by simp [putL]⟩
  | cons s P ih =>
    have hs := hP s (by simp)
    have ha := addS_good (most := 0) h hs.1 hs.2
    have := ih ha.1 (fun t ht => hP t (by simp [ht]))
    refine ⟨this.1, ?_⟩
    have h2 := this.2
    simp only [putL, List.length_cons]
    omega

theorem boundF_zero (L : List Sp) : boundF 0 L = L := by unfold boundF; rw [if_neg (by omega)]

theorem addF_last {L : List Sp} {lo hi : Int} (h : ∀ s ∈ L, s.1 ≤ s.2 ∧ s.2 + 1 < lo) (hlh : lo ≤ hi) : addF lo hi L = L ++ [(lo, hi)] := by
  unfold addF
  rw [List.filter_eq_self.2 (fun s hs => by have := h s hs; simp; omega), List.filter_eq_nil_iff.2 (fun s hs => by have := h s hs; simp; omega), List.filter_eq_nil_iff.2 (fun s hs => by have := h s hs; simp; omega)]
  simp [grownF]

/-- Runs that rise, put in one by one, are the runs. -/
theorem putL_self {mn mx : Int} {A B : List Sp} (h : Good mn mx (A ++ B)) : putL A B = A ++ B := by
  induction B generalizing A with
  | nil => simp [putL]
  | cons s B ih =>
    have hs := (Good.right h).mem (s := s) (by simp)
    have e : addS 0 s.1 s.2 A = A ++ [s] := by
      unfold addS
      rw [if_neg (by omega), boundF_zero]
      exact addF_last (fun t ht => by have := h.mid ht (t := s) (by simp); have := (Good.left h).mem ht; omega) hs.2.1
    rw [putL, e, ih (by rw [List.append_assoc]; exact h), List.append_assoc]
    rfl

theorem LS.base {w w0 w' : World} {b : Nat} {most : Int} {L : List Sp} (hg : w.grownBy w0 none) (h : LS w0 w' b most L) : LS w w' b most L := by
  obtain ⟨v, hv, hf⟩ := h.at_
  exact ⟨⟨v, hv, fun k hk => Nat.le_trans hg.size (hf k hk)⟩, Nat.le_trans hg.size h.new, grown_trans hg h.grown⟩

/-- slices.SortFunc by where the spans begin. -/
def SortOk : Prop := ∀ (W : World) (v : Value) (L : List Sp), Row W v L → L.length * 16 ≤ 140737488355328 →
  Calls Try.prog 73 #[v, .func (.func 74) #[] #[]] W fun e w' => e = .returned (.tuple #[]) ∧ ∃ P, P.Perm L ∧ P.Pairwise (fun a b => a.1 ≤ b.1) ∧ Row w' v P ∧ W.grownBy w' v.ownBlock

set_option maxRecDepth 100000 in
theorem of_any0 (hS : SortOk) (v : Value) (L : List Sp) (w : World) (hB : InB L) (hlen : L.length * 16 ≤ 100000000000000)
    (hC : Calls Try.prog 63 #[v] w fun e w' => ∃ v', e = .returned v' ∧ Row w' v' L ∧ Fresh w v' ∧ w.grownBy w' none) :
    Calls Try.prog 43 #[v] w fun e w' => ∃ b P, e = .returned (.pointer (some ⟨b, 0, none⟩)) ∧ P.Perm L ∧ P.Pairwise (fun a b => a.1 ≤ b.1) ∧ LS w w' b 0 (putL [] P) := by
  go_enter Try.func43, Try.ntmps43
  go_wp2_with fail
  refine hC.mono ?_
  rintro e w1 ⟨v1, rfl, hr1, hf1, hg1⟩
  have hs1 := hS w1 v1 L hr1 (by omega)
  go_wp2_with fail
  refine hs1.mono ?_
  rintro e w2 ⟨rfl, P, hp, hso, hr2, hg2⟩
  have hg : w.grownBy w2 none := grown_fresh hg1 hg2 hf1
  have hPB : InB P := fun s hs => hB s (hp.mem_iff.1 hs)
  have hPl : P.length = L.length := hp.length_eq
  obtain ⟨a, c, rfl, hcells, hcm, hnc⟩ := hr2.shape
  unfold maxLen at hcm
  have F := hide (And.intro hp hso)
  have HG := hide hg
  have HR := hide hr2
  have HF := hide hf1
  have HPB := hide hPB
  have hPl2 : P.length * 16 ≤ 100000000000000 := by omega
  clear hC hs1 hS hr1 hf1 hg1 hp hso hr2 hg2 hg hcells hPB hB hPl hlen
  generalize hN : P.length = N at *
  have HN := hide hN
  clear hN
  go_wp2_with fail
  have hls0 : LS w2 (w2.alloc (.cells #[.int .i64 0, .slice none 0 0] 77)) w2.heap.size 0 [] := ⟨⟨_, ⟨heap_alloc_new w2 _, row_nil _⟩, fresh_nil _⟩, Nat.le_refl _, grown_alloc _ _⟩
  have L0 := hide hls0
  clear hls0
  generalize w2.heap.size = b at *
  go_loopw [15] (fun i wr => ∃ k : Nat, k ≤ N ∧ i = .int .i64 k ∧ LS w2 wr b 0 (putL [] (P.take k))) (fun i _ => N - (intOf i).toNat)
  case atStart => exact ⟨0, Nat.zero_le _, rfl, unhide L0⟩
  case round =>
    clear L0
    obtain ⟨k, hk, rfl, hls⟩ := hrel
    by_cases hlt : k < N
    · have hkL : k < P.length := by rw [unhide HN]; exact hlt
      have hrw : Row wr (.slice a N c) P := by
        have := unhide HR
        exact World.ownsRow.kept (row := none) this hls.grown (by cases (Value.slice a N c).ownBlock <;> simp)
      obtain ⟨g, rfl, sp, hR⟩ : ∃ g, a = some ⟨g, 0, none⟩ ∧ ∃ sp, RowAt wr g c P sp := by
        rcases Row.at hrw with ⟨e1, e2⟩ | ⟨g, c', sp, e1, e2⟩
        · rw [e2] at hkL; simp at hkL
        · simp only [Value.slice.injEq] at e1
          obtain ⟨rfl, -, rfl⟩ := e1
          exact ⟨g, rfl, sp, e2⟩
      have c0 := hR.cell (k * 2) _ (cl_lo P k hkL)
      have c1 := hR.cell (k * 2 + 1) _ (cl_hi P k hkL)
      have hst : P.take (k + 1) = P.take k ++ [P.getD k (0, 0)] := by rw [List.take_add_one]; simp [List.getD, hkL]
      have hx := unhide HPB (P.getD k (0, 0)) (by simp [List.getD, hkL])
      have hgd := putL_good (L := []) (P := P.take k) trivial (fun s hs => unhide HPB s (List.mem_of_mem_take hs))
      have hok : Ok (putL [] (P.take k)) := ⟨hgd.1, by have := hgd.2; have := List.length_take_le k P; simp at *; omega⟩
      have hpl : putL [] (P.take (k + 1)) = addS 0 (P.getD k (0, 0)).1 (P.getD k (0, 0)).2 (putL [] (P.take k)) := by rw [hst, putL_append]; rfl
      generalize P.getD k (0, 0) = x at *
      have hA := fun W' (h : LS w2 W' b 0 (putL [] (P.take k))) => add_ls h hok x.1 x.2 hx.1 hx.2
      rw [← hpl] at hA
      have HL := hide hls
      have hkn : (k : Int) < (N : Int) := by omega
      have HLT := hide hlt
      clear hls hst hx hgd hok hpl hR hrw hlt hkL hk
      go_wp2_with (go_at_call 41; refine (hA _ ((unhide HL).keep (grown_alloc _ _))).mono ?_; rintro e w' ⟨rfl, l2⟩)
      exact ⟨⟨k + 1, unhide HLT, by go_num, l2⟩, by simp [intOf]; have := unhide HLT; omega⟩
    · obtain rfl : k = N := by omega
      have e : P.take k = P := by rw [← unhide HN]; simp
      rw [e] at hls
      have hno : ¬ (k : Int) < (k : Int) := by omega
      have HL := hide hls
      clear hls
      go_wp2_with fail
      go_ret
      exact ⟨b, rfl, P, (unhide F).1, (unhide F).2, LS.base (unhide HG) (unhide HL)⟩
end Go.Proofs.Ytcojhjnledeciaa

namespace Go.Proofs.Ytcojhjnledeciaa
set_option linter.unusedVariables false
set_option maxRecDepth 100000

theorem memB_iff {x : Int} {L : List Sp} : memB x L = true ↔ ∃ s ∈ L, s.1 ≤ x ∧ x ≤ s.2 := by
  unfold memB
  rw [List.any_eq_true]
  simp only [Bool.and_eq_true, decide_eq_true_eq]

theorem good_ext {mn mx : Int} {A B : List Sp} (hA : Good mn mx A) (hB : Good mn mx B) (h : ∀ x, memB x A = true ↔ memB x B = true) : A = B := by
  induction A generalizing mn B with
  | nil =>
    cases B with
    | nil => rfl
    | cons t B =>
      have := (h t.1).2 (memB_true (s := t) (by simp) (Int.le_refl _) hB.2.1)
      simp [memB] at this
  | cons s A ih =>
    cases B with
    | nil =>
      have := (h s.1).1 (memB_true (s := s) (by simp) (Int.le_refl _) hA.2.1)
      simp [memB] at this
    | cons t B =>
      have inA : ∀ x, memB x (s :: A) = true → s.1 ≤ x ∧ (x ≤ s.2 ∨ s.2 + 2 ≤ x) := fun x hx => by
        obtain ⟨u, hu, h1, h2⟩ := memB_iff.1 hx
        rcases List.mem_cons.1 hu with rfl | hu
        · exact ⟨h1, .inl h2⟩
        · have := hA.2.2.2.mem hu; have := hA.2.1; omega
      have inB : ∀ x, memB x (t :: B) = true → t.1 ≤ x ∧ (x ≤ t.2 ∨ t.2 + 2 ≤ x) := fun x hx => by
        obtain ⟨u, hu, h1, h2⟩ := memB_iff.1 hx
        rcases List.mem_cons.1 hu with rfl | hu
        · exact ⟨h1, .inl h2⟩
        · have := hB.2.2.2.mem hu; have := hB.2.1; omega
      have e1 := (inB s.1 ((h s.1).1 (memB_true (s := s) (by simp) (Int.le_refl _) hA.2.1))).1
      have e2 := (inA t.1 ((h t.1).2 (memB_true (s := t) (by simp) (Int.le_refl _) hB.2.1))).1
      have e3 : s.2 = t.2 := by
        rcases Int.lt_trichotomy s.2 t.2 with hl | hl | hl
        · have := (inA (s.2 + 1) ((h (s.2 + 1)).2 (memB_true (s := t) (by simp) (by have := hA.2.1; omega) (by omega)))).2
          omega
        · exact hl
        · have := (inB (t.2 + 1) ((h (t.2 + 1)).1 (memB_true (s := s) (by simp) (by have := hB.2.1; omega) (by omega)))).2
          omega
      have e : s = t := Prod.ext (by omega) e3
      subst e
      have := ih (mn := s.2 + 2) hA.2.2.2 hB.2.2.2 (fun x => by
        constructor
        · intro hx
          obtain ⟨u, hu, h1, h2⟩ := memB_iff.1 hx
          have k := hA.2.2.2.mem hu
          obtain ⟨v, hv, h3, h4⟩ := memB_iff.1 ((h x).1 (memB_true (s := u) (by simp [hu]) h1 h2))
          rcases List.mem_cons.1 hv with rfl | hv
          · omega
          · exact memB_true hv h3 h4
        · intro hx
          obtain ⟨u, hu, h1, h2⟩ := memB_iff.1 hx
          have k := hB.2.2.2.mem hu
          obtain ⟨v, hv, h3, h4⟩ := memB_iff.1 ((h x).2 (memB_true (s := u) (by simp [hu]) h1 h2))
          rcases List.mem_cons.1 hv with rfl | hv
          · omega
          · exact memB_true hv h3 h4)
      rw [this]

theorem getLastD_cons (m m' : Sp) (M : List Sp) : (m' :: M).getLastD m = M.getLastD m' := by cases M <;> rfl

theorem grown_mem {k mx lo hi x : Int} {m : Sp} {M : List Sp} (h : Good k mx (m :: M)) (hlh : lo ≤ hi) (hM : ∀ s ∈ m :: M, lo - 1 ≤ s.2 ∧ s.1 ≤ hi + 1) :
    (min lo m.1 ≤ x ∧ x ≤ max hi (M.getLastD m).2) ↔ (memB x (m :: M) = true ∨ (lo ≤ x ∧ x ≤ hi)) := by
  induction M generalizing m k with
  | nil =>
    have := hM m (by simp)
    have := h.2.1
    have e : memB x [m] = true ↔ m.1 ≤ x ∧ x ≤ m.2 := by rw [memB_iff]; simp
    rw [e]
    simp only [List.getLastD]
    omega
  | cons m' M ih =>
    have h1 := hM m (by simp)
    have h2 := h.2.1
    have h3 := h.2.2.2
    have h4 := h3.1
    have h5 := h3.2.1
    have i := ih (m := m') h3 (fun s hs => hM s (by simp at hs; simp [hs]))
    have e : memB x (m :: m' :: M) = true ↔ (m.1 ≤ x ∧ x ≤ m.2) ∨ memB x (m' :: M) = true := by
      rw [memB_iff, memB_iff]
      simp
    have hl : m'.1 ≤ (M.getLastD m').2 := by
      cases M with
      | nil => exact h5
      | cons u M =>
        have hmem : (u :: M).getLastD m' ∈ m' :: u :: M := by
          have := getLastD_mem (M := u :: M) (by simp) m'
          exact List.mem_cons_of_mem _ this
        have := h3.mem hmem
        rcases List.mem_cons.1 hmem with hq | hq
        · rw [hq]; exact h5
        · have := h3.2.2.2.mem hq; omega
    rw [e, getLastD_cons]
    have hmin : min lo m'.1 = lo := Int.min_eq_left (by omega)
    rw [hmin] at i
    generalize (M.getLastD m').2 = z at *
    by_cases hmm : memB x (m' :: M) = true
    · have := i.2 (.inl hmm)
      simp only [hmm, or_true, true_or, iff_true]
      omega
    · have hi2 : (lo ≤ x ∧ x ≤ max hi z) ↔ (lo ≤ x ∧ x ≤ hi) := by rw [i]; simp [hmm]
      have e3 : (((m.1 ≤ x ∧ x ≤ m.2) ∨ memB x (m' :: M) = true) ∨ (lo ≤ x ∧ x ≤ hi)) ↔ ((m.1 ≤ x ∧ x ≤ m.2) ∨ (lo ≤ x ∧ x ≤ hi)) := by simp [hmm]
      rw [e3]
      clear e3 hmm i e ih
      omega

theorem memB_append (x : Int) (A B : List Sp) : memB x (A ++ B) = true ↔ memB x A = true ∨ memB x B = true := by
  unfold memB; rw [List.any_append, Bool.or_eq_true]

theorem memB_addS {L : List Sp} {lo hi : Int} (h : Good (-9223372036854775808) 9223372036854775807 L) (x : Int) : memB x (addS 0 lo hi L) = true ↔ memB x L = true ∨ (lo ≤ x ∧ x ≤ hi) := by
  unfold addS
  by_cases hlh : hi < lo
  · rw [if_pos hlh]
    constructor
    · exact .inl
    · rintro (h | h)
      · exact h
      · omega
  · rw [if_neg hlh, boundF_zero]
    obtain ⟨A, M, D, rfl, hA, hM, hD⟩ := split3 (lo - 1) (hi + 1) h (by omega)
    rw [addF_split h (by omega) hA hM hD, memB_append, memB_append, memB_append, memB_append]
    have e : memB x [grownF lo hi M] = true ↔ memB x M = true ∨ (lo ≤ x ∧ x ≤ hi) := by
      cases M with
      | nil =>
        simp [memB, grownF]
      | cons m M =>
        rw [← grown_mem (h.right.left) (by omega) hM, memB_iff]
        simp [grownF]
    rw [e]
    constructor
    · rintro (h | (h | h) | h)
      · exact .inl (.inl h)
      · exact .inl (.inr (.inl h))
      · exact .inr h
      · exact .inl (.inr (.inr h))
    · rintro ((h | h | h) | h)
      · exact .inl h
      · exact .inr (.inl (.inl h))
      · exact .inr (.inr h)
      · exact .inr (.inl (.inr h))

theorem memB_putL {L P : List Sp} (h : Good (-9223372036854775808) 9223372036854775807 L) (hP : InB P) (x : Int) : memB x (putL L P) = true ↔ memB x L = true ∨ memB x P = true := by
  induction P generalizing L with
  | nil => simp [putL, memB]
  | cons s P ih =>
    have hs := hP s (by simp)
    rw [putL, ih (addS_good (most := 0) h hs.1 hs.2).1 (fun t ht => hP t (by simp [ht])), memB_addS h, memB_iff (L := s :: P), memB_iff (L := P)]
    simp only [List.mem_cons, exists_eq_or_imp]
    constructor
    · rintro ((h | h) | h)
      · exact .inl h
      · exact .inr (.inl h)
      · exact .inr (.inr h)
    · rintro (h | h | h)
      · exact .inl (.inl h)
      · exact .inl (.inr h)
      · exact .inr h

/-- Spans that hold the same numbers make the same set. -/
theorem putL_eq {P Q : List Sp} (hP : InB P) (hQ : InB Q) (h : ∀ s, s ∈ P ↔ s ∈ Q) : putL [] P = putL [] Q := by
  refine good_ext (putL_good (L := []) trivial hP).1 (putL_good (L := []) trivial hQ).1 (fun x => ?_)
  rw [memB_putL (L := []) trivial hP, memB_putL (L := []) trivial hQ, memB_iff (L := P), memB_iff (L := Q)]
  simp only [h]

/-- No hole where all is there. -/
theorem holes_none {A : List Sp} {lo hi : Int} (h : Good (-9223372036854775808) 9223372036854775807 A) (hlh : lo ≤ hi) (hall : ∀ x, lo ≤ x → x ≤ hi → memB x A = true) : holesF lo hi A = [] := by
  obtain ⟨s, hs, h1, h2⟩ := memB_iff.1 (hall lo (Int.le_refl _) hlh)
  obtain ⟨X, Y, rfl⟩ := List.append_of_mem hs
  have hy : ∀ t ∈ Y, s.2 + 1 < t.1 := fun t ht => by
    have := h.right.2.2.2.mem ht
    omega
  have hx : ∀ t ∈ X, t.2 + 1 < s.1 := fun t ht => h.mid ht (t := s) (by simp)
  have h3 : hi ≤ s.2 := by
    rcases Int.lt_or_le s.2 hi with hl | hl
    · obtain ⟨t, ht, k1, k2⟩ := memB_iff.1 (hall (s.2 + 1) (by omega) (by omega))
      rcases List.mem_append.1 ht with ht | ht
      · have := hx t ht; have := h.right.2.1; omega
      · rcases List.mem_cons.1 ht with rfl | ht
        · omega
        · have := hy t ht; omega
    · exact hl
  have e1 : withinF lo hi X = [] := withinF_none fun t ht => by have := hx t ht; omega
  have e2 : withinF lo hi Y = [] := withinF_none fun t ht => by have := hy t ht; omega
  unfold holesF
  rw [withinF_append, e1]
  simp only [withinF, List.nil_append]
  rw [if_pos ⟨by omega, h2⟩, e2]
  have c : clip lo hi s = (lo, hi) := by unfold clip; rw [Int.max_eq_right (by omega), Int.min_eq_right (by omega)]
  rw [c]
  simp [holesGo]
end Go.Proofs.Ytcojhjnledeciaa
