/- Of: clone, sort, Add one by one (the sort's contract a hypothesis). -/
import Derived.Test.YtnflbefbgcbdfaaGreatSA
namespace Go.Proofs.YtnflbefbgcbdfaaGreat
set_option maxRecDepth 100000
open Go.RowKit
set_option linter.unusedVariables false
set_option maxHeartbeats 400000

theorem addS_good {L : List Sp} {lo hi most : Int} (h : Good (-9223372036854775808) 9223372036854775807 L) (hlo : -9223372036854775808 ≤ lo) (hhi : hi ≤ 9223372036854775807) : Good (-9223372036854775808) 9223372036854775807 (addS most lo hi L) ∧ (addS most lo hi L).length ≤ L.length + 1 := by
  unfold addS
  by_cases hlh : hi < lo
  · rw [if_pos hlh]; exact ⟨h, by omega⟩
  · rw [if_neg hlh]
    have hg := addF_good h (by omega) hlo hhi
    have hb := boundF_good (most := most) hg.1
    exact ⟨hb.1, by omega⟩
/-- What Of makes of spans in the order in which they are put in. -/
def putL : List Sp → List Sp → List Sp
  | L, [] => L
  | L, s :: P => putL (addS 0 s.1 s.2 L) P

theorem putL_append (L A B : List Sp) : putL L (A ++ B) = putL (putL L A) B := by
  induction A generalizing L with
  | nil => rfl
  | cons s A ih => exact ih _

/-- Spans of int64. -/
def InB (P : List Sp) : Prop := ∀ s ∈ P, -9223372036854775808 ≤ s.1 ∧ s.2 ≤ 9223372036854775807

theorem putL_good {L P : List Sp} (h : Good (-9223372036854775808) 9223372036854775807 L) (hP : InB P) : Good (-9223372036854775808) 9223372036854775807 (putL L P) ∧ (putL L P).length ≤ L.length + P.length := by
  induction P generalizing L with
  | nil => exact ⟨h, by simp [putL]⟩
  | cons s P ih =>
    have hs := hP s (by simp)
    have ha := addS_good (most := 0) h hs.1 hs.2
    have := ih ha.1 (fun t ht => hP t (by simp [ht]))
    refine ⟨this.1, ?_⟩
    have h2 := this.2
    simp only [putL, List.length_cons]
    omega

theorem boundF_zero (L : List Sp) : boundF 0 L = L := by unfold boundF; rw [if_neg (by omega)]

theorem addF_last {L : List Sp} {lo hi : Int} (h : ∀ s ∈ L, s.1 ≤ s.2 ∧ s.2 + 1 < lo) (hlh : lo ≤ hi) : addF lo hi L = L ++ [(lo, hi)] := by
  unfold addF
  rw [List.filter_eq_self.2 (fun s hs => by have := h s hs; simp; omega), List.filter_eq_nil_iff.2 (fun s hs => by have := h s hs; simp; omega), List.filter_eq_nil_iff.2 (fun s hs => by have := h s hs; simp; omega)]
  simp [grownF]

/-- Runs that rise, put in one by one, are the runs. -/
theorem putL_self {mn mx : Int} {A B : List Sp} (h : Good mn mx (A ++ B)) : putL A B = A ++ B := by
  induction B generalizing A with
  | nil => simp [putL]
  | cons s B ih =>
    have hs := (Good.right h).mem (s := s) (by simp)
    have e : addS 0 s.1 s.2 A = A ++ [s] := by
      unfold addS
      rw [if_neg (by omega), boundF_zero]
      exact addF_last (fun t ht => by have := h.mid ht (t := s) (by simp); have := (Good.left h).mem ht; omega) hs.2.1
    rw [putL, e, ih (by rw [List.append_assoc]; exact h), List.append_assoc]
    rfl

theorem LS.base {w w0 w' : World} {b : Nat} {most : Int} {L : List Sp} (hg : w.grownBy w0 none) (h : LS w0 w' b most L) : LS w w' b most L := by
  obtain ⟨v, hv, hf⟩ := h.at_
  exact ⟨⟨v, hv, fun k hk => Nat.le_trans hg.size (hf k hk)⟩, Nat.le_trans hg.size h.new, grown_trans hg h.grown⟩

/-- slices.SortFunc by where the spans begin. -/
def SortOk : Prop := ∀ (W : World) (v : Value) (L : List Sp), Row W v L → L.length * 16 ≤ 140737488355328 →
  Calls Tryz.prog 75 #[v, .func (.func 76) #[] #[]] W fun e w' => e = .returned (.tuple #[]) ∧ ∃ P, P.Perm L ∧ P.Pairwise (fun a b => a.1 ≤ b.1) ∧ Row w' v P ∧ W.grownBy w' v.ownBlock

set_option maxRecDepth 100000 in
theorem of_any0 (hS : SortOk) (v : Value) (L : List Sp) (w : World) (hB : InB L) (hlen : L.length * 16 ≤ 100000000000000)
    (hC : Calls Tryz.prog 74 #[v] w fun e w' => ∃ v', e = .returned v' ∧ Row w' v' L ∧ Fresh w v' ∧ w.grownBy w' none) :
    Calls Tryz.prog 43 #[v] w fun e w' => ∃ b P, e = .returned (.pointer (some ⟨b, 0, none⟩)) ∧ P.Perm L ∧ P.Pairwise (fun a b => a.1 ≤ b.1) ∧ LS w w' b 0 (putL [] P) := by
  go_enter Tryz.func43, Tryz.ntmps43
  go_wp2_with fail
  refine hC.mono ?_
  rintro e w1 ⟨v1, rfl, hr1, hf1, hg1⟩
  have hs1 := hS w1 v1 L hr1 (by omega)
  go_wp2_with fail
  refine hs1.mono ?_
  rintro e w2 ⟨rfl, P, hp, hso, hr2, hg2⟩
  have hg : w.grownBy w2 none := grown_fresh hg1 hg2 hf1
  have hPB : InB P := fun s hs => hB s (hp.mem_iff.1 hs)
  have hPl : P.length = L.length := hp.length_eq
  obtain ⟨a, c, rfl, hcells, hcm, hnc⟩ := hr2.shape
  unfold maxLen at hcm
  have F := hide (And.intro hp hso)
  have HG := hide hg
  have HR := hide hr2
  have HF := hide hf1
  have HPB := hide hPB
  have hPl2 : P.length * 16 ≤ 100000000000000 := by omega
  clear hC hs1 hS hr1 hf1 hg1 hp hso hr2 hg2 hg hcells hPB hB hPl hlen
  generalize hN : P.length = N at *
  have HN := hide hN
  clear hN
  go_wp2_with fail
  have hls0 : LS w2 (w2.alloc (.cells #[.int .i64 0, .slice none 0 0] 116)) w2.heap.size 0 [] := ⟨⟨_, ⟨heap_alloc_new w2 _, row_nil _⟩, fresh_nil _⟩, Nat.le_refl _, grown_alloc _ _⟩
  have L0 := hide hls0
  clear hls0
  generalize w2.heap.size = b at *
  go_loopw [15] (fun i wr => ∃ k : Nat, k ≤ N ∧ i = .int .i64 k ∧ LS w2 wr b 0 (putL [] (P.take k))) (fun i _ => N - (intOf i).toNat)
  case atStart => exact ⟨0, Nat.zero_le _, rfl, unhide L0⟩
  case round =>
    clear L0
    obtain ⟨k, hk, rfl, hls⟩ := hrel
    by_cases hlt : k < N
    · have hkL : k < P.length := by rw [unhide HN]; exact hlt
      have hrw : Row wr (.slice a N c) P := by
        have := unhide HR
        exact World.ownsRow.kept (row := none) this hls.grown (by cases (Value.slice a N c).ownBlock <;> simp)
      obtain ⟨g, rfl, sp, hR⟩ : ∃ g, a = some ⟨g, 0, none⟩ ∧ ∃ sp, RowAt wr g c P sp := by
        rcases Row.at hrw with ⟨e1, e2⟩ | ⟨g, c', sp, e1, e2⟩
        · rw [e2] at hkL; simp at hkL
        · simp only [Value.slice.injEq] at e1
          obtain ⟨rfl, -, rfl⟩ := e1
          exact ⟨g, rfl, sp, e2⟩
      have c0 := hR.cell (k * 2) _ (cl_lo P k hkL)
      have c1 := hR.cell (k * 2 + 1) _ (cl_hi P k hkL)
      have hst : P.take (k + 1) = P.take k ++ [P.getD k (0, 0)] := by rw [List.take_add_one]; simp [List.getD, hkL]
      have hx := unhide HPB (P.getD k (0, 0)) (by simp [List.getD, hkL])
      have hgd := putL_good (L := []) (P := P.take k) trivial (fun s hs => unhide HPB s (List.mem_of_mem_take hs))
      have hok : Ok (putL [] (P.take k)) := ⟨hgd.1, by have := hgd.2; have := List.length_take_le k P; simp at *; omega⟩
      have hpl : putL [] (P.take (k + 1)) = addS 0 (P.getD k (0, 0)).1 (P.getD k (0, 0)).2 (putL [] (P.take k)) := by rw [hst, putL_append]; rfl
      generalize P.getD k (0, 0) = x at *
      have hA := fun W' (h : LS w2 W' b 0 (putL [] (P.take k))) => add_ls h hok x.1 x.2 hx.1 hx.2
      rw [← hpl] at hA
      have HL := hide hls
      have hkn : (k : Int) < (N : Int) := by omega
      have HLT := hide hlt
      clear hls hst hx hgd hok hpl hR hrw hlt hkL hk
      go_wp2_with (go_at_call 41; refine (hA _ ((unhide HL).keep (grown_alloc _ _))).mono ?_; rintro e w' ⟨rfl, l2⟩)
      exact ⟨⟨k + 1, unhide HLT, by go_num, l2⟩, by simp [intOf]; have := unhide HLT; omega⟩
    · obtain rfl : k = N := by omega
      have e : P.take k = P := by rw [← unhide HN]; simp
      rw [e] at hls
      have hno : ¬ (k : Int) < (k : Int) := by omega
      have HL := hide hls
      clear hls
      go_wp2_with fail
      go_ret
      exact ⟨b, rfl, P, (unhide F).1, (unhide F).2, LS.base (unhide HG) (unhide HL)⟩
end Go.Proofs.YtnflbefbgcbdfaaGreat
