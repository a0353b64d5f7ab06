/- V1I, V1J, V1K, V2A, V2C, V2D, V2B, V2E, V2F, one text. -/
import Derived.Test.YthihabjegpacaaaGreatPGPlaB
import Derived.Deep.DeepCutAuto
import Derived.BigQuiet
import Derived.Deep.RegionHeld3
import Derived.Laws.OwnMore
import Derived.Laws.IdiomCopy
namespace Go.Proofs.YthihabjegpacaaaGreat
open Go.RowKit
set_option linter.unusedVariables false
set_option maxHeartbeats 4000000
set_option maxRecDepth 100000

/-- The runs below a number. -/
def belowR (k : Int) : List Sp → List Sp
  | [] => []
  | s :: L => if s.1 < k then (s.1, min s.2 (k - 1)) :: belowR k L else []
theorem belowR_none {mn mx k : Int} {L : List Sp} (h : Good mn mx L) (hk : k ≤ mn) : belowR k L = [] := by
  cases L with
  | nil => rfl
  | cons s L => have := h.1; simp only [belowR]; rw [if_neg (by omega)]
theorem belowR_all {mn mx k : Int} {L : List Sp} (h : Good mn mx L) (hk : mx < k) : belowR k L = L := by
  induction L generalizing mn with
  | nil => rfl
  | cons s L ih =>
    have h1 := h.1; have h2 := h.2.1; have h3 := h.2.2.1
    simp only [belowR]
    rw [if_pos (by omega), ih h.2.2.2, Int.min_eq_left (by omega)]
theorem belowR_not {mn mx k : Int} {L : List Sp} (h : Good mn mx L) (hk : memB k L = false) : belowR (k + 1) L = belowR k L := by
  induction L generalizing mn with
  | nil => rfl
  | cons s L ih =>
    have h1 := h.1; have h2 := h.2.1; have h3 := h.2.2.1
    rw [memB_cons, Bool.or_eq_false_iff] at hk
    have hn : ¬ (s.1 ≤ k ∧ k ≤ s.2) := fun q => by
      have := hk.1
      rw [decide_eq_true q.1, decide_eq_true q.2] at this
      cases this
    simp only [belowR]
    by_cases c : s.1 < k
    · rw [if_pos (by omega), if_pos c, ih h.2.2.2 hk.2, Int.min_eq_left (by omega), Int.min_eq_left (by omega)]
    · rw [if_neg (by omega), if_neg c]
theorem belowR_in {mn mx k : Int} {L : List Sp} (h : Good mn mx L) (hk : memB k L = true) :
    (∃ A lo, belowR k L = A ++ [(lo, k - 1)] ∧ belowR (k + 1) L = A ++ [(lo, k)]) ∨ ((∀ A s, belowR k L = A ++ [s] → s.2 + 1 ≠ k) ∧ belowR (k + 1) L = belowR k L ++ [(k, k)]) := by
  induction L generalizing mn with
  | nil => simp [memB] at hk
  | cons s L ih =>
    have h1 := h.1; have h2 := h.2.1; have h3 := h.2.2.1
    by_cases c : s.1 ≤ k ∧ k ≤ s.2
    · have e0 : belowR k L = [] := belowR_none h.2.2.2 (by omega)
      have e1 : belowR (k + 1) L = [] := belowR_none h.2.2.2 (by omega)
      by_cases d : s.1 < k
      · left
        refine ⟨[], s.1, ?_, ?_⟩
        · simp only [belowR]
          rw [if_pos d, e0, Int.min_eq_right (by omega)]
          rfl
        · simp only [belowR]
          rw [if_pos (by omega), e1, Int.min_eq_right (by omega)]
          show [(s.1, k + 1 - 1)] = [(s.1, k)]
          rw [show k + 1 - 1 = k by omega]
      · right
        have e : belowR k (s :: L) = [] := by simp only [belowR]; rw [if_neg d]
        refine ⟨fun A t q => ?_, ?_⟩
        · rw [e] at q; simp at q
        · rw [e]
          simp only [belowR]
          rw [if_pos (by omega), e1, Int.min_eq_right (by omega)]
          show [(s.1, k + 1 - 1)] = [(k, k)]
          rw [show k + 1 - 1 = k by omega, show s.1 = k by omega]
    · have hk2 : memB k L = true := by
        rw [memB_cons, Bool.or_eq_true] at hk
        refine hk.resolve_left (fun q => c ?_)
        simpa using q
      have hlo := memB_in h.2.2.2 hk2
      have e0 : belowR k (s :: L) = s :: belowR k L := by simp only [belowR]; rw [if_pos (by omega), Int.min_eq_left (by omega)]
      have e1 : belowR (k + 1) (s :: L) = s :: belowR (k + 1) L := by simp only [belowR]; rw [if_pos (by omega), Int.min_eq_left (by omega)]
      rw [e0, e1]
      rcases ih h.2.2.2 hk2 with ⟨A, lo, q1, q2⟩ | ⟨q1, q2⟩
      · left
        exact ⟨s :: A, lo, by rw [q1]; rfl, by rw [q2]; rfl⟩
      · right
        refine ⟨fun A t q => ?_, by rw [q2]; rfl⟩
        cases A with
        | nil =>
          simp at q
          obtain ⟨rfl, -⟩ := q
          omega
        | cons a A =>
          simp at q
          exact q1 A t q.2
theorem belowR_len {mn mx k : Int} {L : List Sp} (h : Good mn mx L) : (belowR k L).length ≤ L.length := by
  induction L generalizing mn with
  | nil => exact Nat.le_refl _
  | cons s L ih =>
    simp only [belowR]
    split
    · have := ih h.2.2.2
      simp only [List.length_cons]
      omega
    · exact Nat.zero_le _

theorem belowR_mem {mn mx k : Int} {L : List Sp} (h : Good mn mx L) : ∀ t ∈ belowR k L, mn ≤ t.2 ∧ t.2 < k := by
  induction L generalizing mn with
  | nil => intro t ht; simp [belowR] at ht
  | cons s L ih =>
    have h1 := h.1; have h2 := h.2.1; have h3 := h.2.2.1
    intro t ht
    simp only [belowR] at ht
    split at ht
    · rcases List.mem_cons.1 ht with rfl | ht
      · simp only; omega
      · have := ih h.2.2.2 t ht; omega
    · simp at ht
theorem own_low {w : World} {b : Nat} {e : TypeId} {sz n : Nat} {v : Value} {xs : List Value} (h : w.ownsRow b e sz v n xs) : w.ownsRow 0 e sz v n xs := by
  refine ⟨h.1, ?_⟩
  rcases h.2 with h2 | ⟨g, c, cur, e1, q1, q2⟩
  · exact .inl h2
  · exact .inr ⟨g, c, cur, e1, Nat.zero_le _, q2⟩

/-- Runs that a call collects. -/
structure RC (X : World) (v : Value) (L : List Sp) (Z : World) : Prop where
  row : Z.ownsRow X.heap.size 69 2 v L.length (cl L)
  gr : X.grownBy Z none
theorem rc_nil (X : World) : RC X nilS [] X := ⟨⟨rfl, .inl ⟨rfl, rfl⟩⟩, World.grownBy.refl _ _⟩
theorem RC.shape {X Z : World} {v : Value} {L : List Sp} (h : RC X v L Z) : ∃ a c, v = .slice a L.length c ∧ L.length ≤ c ∧ c ≤ 9223372036854775807 ∧ (L = [] ∨ ∃ g, a = some ⟨g, 0, none⟩) := by
  rcases h.row.2 with ⟨e1, e2⟩ | ⟨g, c', cur, e1, q1, q2, q3, q4, q5, q6⟩
  · have : L = [] := List.length_eq_zero_iff.1 e2
    subst this
    exact ⟨none, 0, e1, Nat.le_refl _, Nat.zero_le _, .inl rfl⟩
  · exact ⟨_, c', e1, q3, by unfold maxLen at q4; omega, .inr ⟨g, rfl⟩⟩
theorem RC.app {X Z : World} {v : Value} {L : List Sp} (h : RC X v L Z) (x y : Int) (hb : L.length + 1 ≤ 1000000000) :
    ∃ a' c' W', (Builtin.append_ #[32, 32] 32 #[v, .slice (some ⟨Z.heap.size, 0, none⟩) 1 1]).run Tryz.prog (Z.alloc (.cells #[.int .i64 x, .int .i64 y] 69)) = .ok (.slice a' (L.length + 1) c') W' ∧ RC X (.slice a' (L.length + 1) c') (L ++ [(x, y)]) W' := by
  obtain ⟨i, hi, hz, hs, hby⟩ := info_parts Tryz.infoS
  have gA := grown_alloc Z (.cells #[.int .i64 x, .int .i64 y] 69)
  have hrow : (Z.alloc (.cells #[.int .i64 x, .int .i64 y] 69)).ownsRow X.heap.size 69 2 v L.length (cl L) := World.ownsRow.kept h.row gA (by cases v.ownBlock <;> simp)
  obtain ⟨v', W', hr, ho, hgr, hnil⟩ := run_append_own (P := Tryz.prog) (Z.alloc (.cells #[.int .i64 x, .int .i64 y] 69)) X.heap.size 32 32 69 i _ 2 16 Tryz.underlying32 hi hz hs hby rfl (by decide) v L.length (cl L) hrow ⟨Z.heap.size, 0, none⟩ 1 1 [.int .i64 x, .int .i64 y] rfl (fun j u hj => by
    have hb2 := Blk.new Z #[.int .i64 x, .int .i64 y] 69
    have := hb2.cell j u (by
      match j, hj with
      | 0, hj => exact hj
      | 1, hj => exact hj)
    simpa only [Addr.add_lit, Nat.zero_add] using this) (by simp [Value.oneCell']) (by unfold maxLen; omega) (by omega) (Nat.le_trans h.gr.size gA.size)
  have e : cl L ++ [.int .i64 x, .int .i64 y] = cl (L ++ [(x, y)]) := by rw [cl_append]; rfl
  have e2 : (L ++ [(x, y)]).length = L.length + 1 := by simp
  rw [e] at ho
  obtain ⟨a', c', rfl⟩ : ∃ a' c', v' = .slice a' (L.length + 1) c' := by
    rcases ho.2 with ⟨-, e⟩ | ⟨g', c', cur, e1, -⟩
    · omega
    · exact ⟨_, _, e1⟩
  refine ⟨a', c', W', hr, by rw [e2]; exact ho, ?_⟩
  have hg2 := grown_trans h.gr gA
  exact ⟨hgr.os.trans hg2.os, hgr.tape.trans hg2.tape, hgr.output.trans hg2.output, Nat.le_trans hg2.size hgr.size, fun g hg hn => by
    rw [hgr.block g (Nat.lt_of_lt_of_le hg hg2.size) (fun e => by have := (h.row.lt g e.symm).1; omega)]
    exact hg2.block g hg hn⟩
theorem RC.last {X Z : World} {g n c : Nat} {A : List Sp} {lo hi : Int} (h : RC X (.slice (some ⟨g, 0, none⟩) n c) (A ++ [(lo, hi)]) Z) : n = A.length + 1 ∧ Z.cell? ⟨g, A.length * 2 + 1, none⟩ = some (.int .i64 hi) ∧ Z.frozen? ⟨g, A.length * 2 + 1, none⟩ = false ∧ ∀ y, RC X (.slice (some ⟨g, 0, none⟩) n c) (A ++ [(lo, y)]) (Z.setCell ⟨g, A.length * 2 + 1, none⟩ (.int .i64 y)) := by
  have hn : n = A.length + 1 := by
    rcases h.row.2 with ⟨e1, e2⟩ | ⟨g', c', cur, e1, -⟩
    · cases e1
    · injection e1 with _ e1 _
      rw [e1]; simp
  subst hn
  have hrow := h.row
  have el : (A ++ [(lo, hi)]).length = A.length + 1 := by simp
  rw [el] at hrow
  have hlen : (cl A).length = A.length * 2 := cl_length A
  refine ⟨rfl, ?_, World.ownsRow.frozenAt hrow _, fun y => ⟨?_, grown_set h.gr g _ _ (hrow.lt g rfl).1⟩⟩
  · rw [World.ownsRow.cellAt hrow (A.length * 2 + 1) (by omega), cl_append, List.getElem?_append_right (by omega), hlen, show A.length * 2 + 1 - A.length * 2 = 1 by omega]
    rfl
  · have := (World.ownsRow.stored hrow (A.length * 2 + 1) (.int .i64 y)).1
    have e : (cl (A ++ [(lo, hi)])).set (A.length * 2 + 1) (.int .i64 y) = cl (A ++ [(lo, y)]) := by
      rw [cl_append, cl_append, List.set_append_right _ _ (by omega), hlen, show A.length * 2 + 1 - A.length * 2 = 1 by omega]
      rfl
    rw [e] at this
    have el2 : (A ++ [(lo, y)]).length = A.length + 1 := by simp
    rw [el2]
    exact this


theorem belowR_skip {mn mx : Int} {L : List Sp} (h : Good mn mx L) : ∀ (n : Nat) (p : Int), (∀ x, p ≤ x → x < p + n → memB x L = false) → belowR (p + n) L = belowR p L
  | 0, p, _ => by rw [show p + ((0 : Nat) : Int) = p by omega]
  | n + 1, p, hx => by
    rw [show p + ((n + 1 : Nat) : Int) = (p + n) + 1 by omega, belowR_not h (hx (p + n) (by omega) (by omega))]
    exact belowR_skip h n p fun x h1 h2 => hx x h1 (by omega)
theorem belowR_gap {mn mx p q : Int} {L : List Sp} (h : Good mn mx L) (hpq : p ≤ q) (hx : ∀ x, p ≤ x → x < q → memB x L = false) : belowR q L = belowR p L := by
  have := belowR_skip h (q - p).toNat p (fun x h1 h2 => hx x h1 (by omega))
  rw [show p + ((q - p).toNat : Int) = q by omega] at this
  exact this
/-- Up to where the first ones reach. -/
def ptH (r : Int) (H : List Hd) : Nat → Int
  | 0 => r
  | i + 1 => match H[i]? with
    | some x => x.1 + 1
    | none => r
theorem ptH_succ {r : Int} {H : List Hd} {i : Nat} {x : Hd} (h : H[i]? = some x) : ptH r H (i + 1) = x.1 + 1 := by simp only [ptH, h]
theorem IsH.rise {S : Rv} {H : List Hd} (h : IsH S H) {i j : Nat} {x y : Hd} (hi : H[i]? = some x) (hj : H[j]? = some y) (hij : i < j) : x.1 < y.1 := by
  obtain ⟨li, ei⟩ := List.getElem?_eq_some_iff.1 hi
  obtain ⟨lj, ej⟩ := List.getElem?_eq_some_iff.1 hj
  have := List.pairwise_iff_getElem.1 h.srt i j li lj hij
  rw [ei, ej] at this
  exact this
theorem IsH.pt {S : Rv} {H : List Hd} (h : IsH S H) (i : Nat) (hi : i ≤ H.length) : S.read ≤ ptH S.read H i ∧ ∀ j y, H[j]? = some y → j < i → y.1 < ptH S.read H i := by
  cases i with
  | zero => exact ⟨Int.le_refl _, fun j y _ hj => by omega⟩
  | succ i =>
    obtain ⟨x, hx⟩ : ∃ x, H[i]? = some x := ⟨_, List.getElem?_eq_getElem (by omega)⟩
    rw [ptH_succ hx]
    have := h.is x (List.mem_of_getElem? hx)
    refine ⟨by omega, fun j y hj hlt => ?_⟩
    by_cases e : j = i
    · subst e; rw [hx] at hj; cases hj; omega
    · have := h.rise hj hx (by omega); omega
/-- Between what is held there is nothing. -/
theorem IsH.gap {S : Rv} {H : List Hd} (h : IsH S H) (hok : RvOk S) (i : Nat) (hi : i ≤ H.length) (z : Int) (hz : ptH S.read H i ≤ z) (hx : ∀ x, H[i]? = some x → z < x.1) : memB z S.K = false := by
  obtain ⟨p1, p2⟩ := h.pt i hi
  cases hm : memB z S.K with
  | false => rfl
  | true =>
    exfalso
    rw [hok.kT] at hm
    obtain ⟨y, hy⟩ := Option.isSome_iff_exists.1 hm
    obtain ⟨j, hj⟩ := List.getElem?_of_mem (h.all z y (by omega) hy)
    rcases Nat.lt_trichotomy j i with c | c | c
    · have := p2 j _ hj c; simp only at this; omega
    · subst c; have := hx _ hj; simp only at this; omega
    · obtain ⟨x, hxi⟩ : ∃ x, H[i]? = some x := ⟨_, List.getElem?_eq_getElem (by have := (List.getElem?_eq_some_iff.1 hj).1; omega)⟩
      have := h.rise hxi hj c
      have := hx x hxi
      simp only at *
      omega
theorem IsH.mem {S : Rv} {H : List Hd} (h : IsH S H) (hok : RvOk S) {i : Nat} {x : Hd} (hx : H[i]? = some x) : memB x.1 S.K = true ∧ belowR x.1 S.K = belowR (ptH S.read H i) S.K ∧ S.read ≤ x.1 ∧ x.1 < S.high := by
  have hl := (List.getElem?_eq_some_iff.1 hx).1
  have hi := h.is x (List.mem_of_getElem? hx)
  have hm : memB x.1 S.K = true := by rw [hok.kT, hi.2]; rfl
  have hb := memB_in hok.gK hm
  refine ⟨hm, belowR_gap hok.gK ?_ fun z h1 h2 => h.gap hok i (by omega) z h1 fun y hy => ?_, hi.1, by omega⟩
  · cases i with
    | zero => exact hi.1
    | succ i =>
      obtain ⟨y, hy⟩ : ∃ y, H[i]? = some y := ⟨_, List.getElem?_eq_getElem (by omega)⟩
      rw [ptH_succ hy]
      have := h.rise hy hx (by omega)
      omega
  · rw [hx] at hy; cases hy; exact h2
theorem IsH.last {S : Rv} {H : List Hd} (h : IsH S H) (hok : RvOk S) : belowR (ptH S.read H H.length) S.K = S.K := by
  obtain ⟨p1, p2⟩ := h.pt H.length (Nat.le_refl _)
  by_cases c : ptH S.read H H.length ≤ S.high
  · rw [← belowR_gap hok.gK c fun z h1 h2 => h.gap hok H.length (Nat.le_refl _) z h1 fun x hx => by simp at hx]
    exact belowR_all hok.gK (by omega)
  · exact belowR_all hok.gK (by omega)
theorem belowR_read {S : Rv} (hok : RvOk S) : belowR S.read S.K = if 0 < S.read then [(0, S.read - 1)] else [] := by
  split
  · next c =>
    obtain ⟨s, L, e, e1, e2⟩ := head_run hok c
    have hg := hok.gK
    rw [e] at hg ⊢
    have hn : belowR S.read L = [] := belowR_none hg.2.2.2 (by omega)
    simp only [belowR]
    rw [if_pos (by omega), hn, Int.min_eq_right (by omega), e1]
  · next c => exact belowR_none hok.gK (by omega)
theorem cnt_one (a b : Int) : cnt [(a, b)] = b - a + 1 := by simp [cnt]
theorem cnt_in {mn mx k : Int} {L : List Sp} (h : Good mn mx L) (hk : memB k L = true) : cnt (belowR (k + 1) L) = cnt (belowR k L) + 1 := by
  rcases belowR_in h hk with ⟨A, lo, q1, q2⟩ | ⟨-, q2⟩
  · rw [q1, q2, cnt_append, cnt_append, cnt_one, cnt_one]; omega
  · rw [q2, cnt_append, cnt_one]; omega
theorem IsH.cntAt {S : Rv} {H : List Hd} (h : IsH S H) (hok : RvOk S) : ∀ i : Nat, i ≤ H.length → cnt (belowR (ptH S.read H i) S.K) = S.read + i
  | 0, _ => by
    show cnt (belowR S.read S.K) = _
    have := hok.r0
    rw [belowR_read hok]
    split
    · rw [cnt_one]; omega
    · simp [cnt]; omega
  | i + 1, hi => by
    obtain ⟨x, hx⟩ : ∃ x, H[i]? = some x := ⟨_, List.getElem?_eq_getElem (by omega)⟩
    obtain ⟨m1, m2, -⟩ := h.mem hok hx
    rw [ptH_succ hx, cnt_in hok.gK m1, m2, h.cntAt hok i (by omega)]
    omega
theorem IsH.count {S : Rv} {H : List Hd} (h : IsH S H) (hok : RvOk S) : (H.length : Int) = cnt S.K - S.read := by
  have := h.cntAt hok H.length (Nat.le_refl _)
  rw [h.last hok] at this
  omega
end Go.Proofs.YthihabjegpacaaaGreat

namespace Go.Proofs.YthihabjegpacaaaGreat
open Go.RowKit
set_option linter.unusedVariables false
set_option maxHeartbeats 4000000
set_option maxRecDepth 100000

section
variable {W : World} {r : Nat} {a : Option Addr} {c : Nat} {S : Rv} {H : List Hd}
theorem rruns_any (h : DR W r a c S H) (hok : RvOk S) (hH : H.length ≤ 100000000) (nK : S.K.length ≤ 100000000) :
    Calls Tryz.prog 43 #[ptr r] W fun e W' => ∃ v, e = .returned v ∧ Row W' v S.K ∧ Fresh W v ∧ W.grownBy W' none := by
  have hr0 := hok.r0; have hrh := hok.rh; have hhl := hok.hl; have hlm := hok.lm
  have HD := hide h
  have OK := hide hok
  have hlb : Hid (∀ k : Int, (belowR k S.K).length ≤ 100000000) := fun k => Nat.le_trans (belowR_len hok.gK) nK
  have READ := hide (belowR_read hok)
  obtain ⟨-, -, cr, -⟩ := h.cells
  obtain ⟨a1, k1, W1, hap, h1⟩ := (rc_nil W).app 0 (S.read - 1) (by simp)
  have HAP := hide hap
  have H1 := hide h1
  clear h hok nK hap h1
  generalize hlen : H.length = N at *
  go_enter Tryz.func43, Tryz.ntmps43
  go_upto_if 11 with fail
  go_cut [3] (fun l Z => Hid (RC W l (belowR S.read S.K) Z))
  case first =>
    by_cases hp : 0 < S.read
    · have wq : IntKind.i64.wrap (S.read - 1) = S.read - 1 := by rw [IntKind.wrap_i64]; omega
      have Q : Hid (RC W (.slice a1 ([] : List Sp).length.succ k1) (belowR S.read S.K) W1) := by
        rw [unhide READ, if_pos hp]; exact unhide H1
      clear READ H1
      go_wp2_with (at_builtin; refine wpList_append_run _ rfl _ _ 32 32 rfl _ _ rfl rfl (unhide HAP) ?_)
      go_meet
      case rel => exact Q
    · have Q : Hid (RC W nilS (belowR S.read S.K) W) := by
        rw [unhide READ, if_neg hp]; exact rc_nil W
      clear READ H1 HAP
      go_wp2_with fail
      go_meet
      case rel => exact Q
  case rest =>
    clear READ H1 HAP
    have I0 := hcut
    clear hcut
    obtain ⟨Z0, hZ0⟩ : ∃ Z0, Z0 = wc := ⟨_, rfl⟩
    subst hZ0
    go_wp2_with fail
    go_loopw [3, 4] (fun l i Z => ∃ k : Nat, k ≤ N ∧ i = .int .i64 (k : Int) ∧ Hid (RC W l (belowR (ptH S.read H k) S.K) Z)) (fun _ i _ => N - (intOf i).toNat)
    case atStart => exact ⟨0, Nat.zero_le _, rfl, I0⟩
    case round =>
      clear I0
      obtain ⟨k, hk, rfl, I⟩ := hrel
      obtain ⟨Z, hZ⟩ : ∃ Z, Z = wr := ⟨_, rfl⟩
      subst hZ
      obtain ⟨la, lc, rfl, hl1, hl2, hl3⟩ := (unhide I).shape
      have hR := (unhide HD).grown (unhide I).gr
      have c4 := hR.cells.2.2.2.2.2.1
      rw [hlen] at c4
      by_cases hlt : k < N
      · obtain ⟨x, hx⟩ : ∃ x, H[k]? = some x := ⟨_, List.getElem?_eq_getElem (by omega)⟩
        obtain ⟨m1, m2, m3, m4⟩ := (unhide HD).ish.mem (unhide OK) hx
        obtain ⟨g, off, rfl⟩ := hR.rd.sh.resolve_left (by omega)
        have hc := (hR.rd.cells hx).1
        have hkN : (k : Int) < (N : Int) := by omega
        have hk0 : (0 : Int) ≤ (k : Int) := by omega
        have PT := hide (ptH_succ (r := S.read) hx)
        rw [← m2] at I hl1 hl3 ⊢
        have HLT := hide hlt
        have hcap := hR.rd.cap
        rw [hlen] at hcap
        clear hR hk hlt m2
        rcases belowR_in (unhide OK).gK m1 with ⟨A, lo, q1, q2⟩ | ⟨q1, q2⟩
        · rw [q1] at I hl3
          obtain ⟨g2, rfl⟩ := hl3.resolve_left (by simp)
          obtain ⟨en, z1, fz, hst⟩ := (unhide I).last
          have NX : Hid (RC W (.slice (some ⟨g2, 0, none⟩) (belowR x.1 S.K).length lc) (belowR (ptH S.read H (k + 1)) S.K) (Z.setCell ⟨g2, A.length * 2 + 1, none⟩ (.int .i64 x.1))) := by
            rw [unhide PT, q2]
            have := hst x.1
            rw [← q1] at this
            exact this
          rw [← q1] at en
          have hlb' := unhide hlb x.1
          generalize hln : (belowR x.1 S.K).length = ln at *
          generalize hAn : A.length = an at *
          have hln1 : (ln : Int) - 1 = (an : Int) := by omega
          have hp0 : (0 : Int) < (ln : Int) := by omega
          have hp0d : decide ((0 : Int) < (ln : Int)) = true := decide_eq_true hp0
          have ha0 : (0 : Int) ≤ (an : Int) := by omega
          have hal : (an : Int) < (ln : Int) := by omega
          clear I q1 q2 hst hln hAn en hl1 m1 PT hx
          generalize x.1 = xo at *
          have hz1 : xo - 1 + 1 = xo := by omega
          have hzb : (xo == xo) = true := by simp
          have wz : IntKind.i64.wrap (xo - 1 + 1) = xo := by rw [IntKind.wrap_i64]; omega
          go_wp2
          exact ⟨⟨k + 1, unhide HLT, by go_num, NX⟩, by simp [intOf]; have := unhide HLT; omega⟩
        · have hlb' := unhide hlb x.1
          obtain ⟨a2, k2, W2, hap, h2⟩ := (unhide I).app x.1 x.1 (by omega)
          have NX : Hid (RC W (.slice a2 ((belowR x.1 S.K).length + 1) k2) (belowR (ptH S.read H (k + 1)) S.K) W2) := by
            rw [unhide PT, q2]
            exact h2
          have HAP := hide hap
          clear hap h2
          by_cases hz : (belowR x.1 S.K).length = 0
          · rw [hz] at HAP NX
            have e0 : ∀ a c, Value.slice a (belowR x.1 S.K).length c = .slice a 0 c := fun a c => by rw [hz]
            rw [e0]
            clear I q1 q2 hl1 hlb' e0 hz m1 PT hx
            generalize x.1 = xo at *
            go_wp2_with (at_builtin; refine wpList_append_run _ rfl _ _ 32 32 rfl _ _ rfl rfl (unhide HAP) ?_)
            exact ⟨⟨k + 1, unhide HLT, by go_num, NX⟩, by simp [intOf]; have := unhide HLT; omega⟩
          · obtain ⟨A, t, hAt⟩ : ∃ A t, belowR x.1 S.K = A ++ [t] := (List.eq_nil_or_concat (belowR x.1 S.K)).resolve_left (fun e => hz (by rw [e]; rfl)) |>.imp fun A ⟨t, e⟩ => ⟨t, by rw [e, List.concat_eq_append]⟩
            have hne := q1 A t hAt
            obtain ⟨g2, rfl⟩ := hl3.resolve_left (fun e => hz (by rw [e]; rfl))
            have I2 := unhide I
            rw [hAt] at I2
            obtain ⟨en, z1, -, -⟩ := RC.last (lo := t.1) (hi := t.2) I2
            rw [← hAt] at en
            have tb : 0 ≤ t.2 ∧ t.2 ≤ 4611686018427387903 := by
              have := belowR_mem (k := x.1) (unhide OK).gK t (by rw [hAt]; simp)
              omega
            generalize hln : (belowR x.1 S.K).length = ln at *
            generalize hAn : A.length = an at *
            have hln1 : (ln : Int) - 1 = (an : Int) := by omega
            have hp0 : (0 : Int) < (ln : Int) := by omega
            have hp0d : decide ((0 : Int) < (ln : Int)) = true := decide_eq_true hp0
            have ha0 : (0 : Int) ≤ (an : Int) := by omega
            have hal : (an : Int) < (ln : Int) := by omega
            have hzb : (t.2 + 1 == x.1) = false := by simp; exact hne
            clear I I2 q1 q2 hln hAn en hl1 hz hAt hne m1 PT hx
            generalize t.2 = th at *
            generalize x.1 = xo at *
            go_wp2_with (at_builtin; refine wpList_append_run _ rfl _ _ 32 32 rfl _ _ rfl rfl (unhide HAP) ?_)
            exact ⟨⟨k + 1, unhide HLT, by go_num, NX⟩, by simp [intOf]; have := unhide HLT; omega⟩
      · obtain rfl : k = N := by omega
        have hno : ¬ (k : Int) < (k : Int) := by omega
        have hall : belowR (ptH S.read H k) S.K = S.K := by have := (unhide HD).ish.last (unhide OK); rw [hlen] at this; exact this
        have hI := unhide I
        have FIN : Hid (Row Z (.slice la (belowR (ptH S.read H k) S.K).length lc) S.K ∧ Fresh W (.slice la (belowR (ptH S.read H k) S.K).length lc) ∧ W.grownBy Z none) := by
          rw [hall] at hI ⊢
          exact ⟨own_low hI.row, fun g e => (hI.row.lt g e).1, hI.gr⟩
        clear hI I hall hR hl1
        generalize (belowR (ptH S.read H k) S.K).length = ln at *
        go_wp2
        go_ret
        exact ⟨_, rfl, unhide FIN⟩
end
end Go.Proofs.YthihabjegpacaaaGreat

namespace Go.Proofs.YthihabjegpacaaaGreat
open Go.RowKit
set_option linter.unusedVariables false
set_option linter.unusedSimpArgs false
set_option maxHeartbeats 8000000
set_option maxRecDepth 100000

section
variable {W : World} {r : Nat} {a : Option Addr} {c : Nat} {S : Rv} {H : List Hd}
theorem rview_any (h : DR W r a c S H) (hok : RvOk S) (hH : H.length ≤ 100000000) (nK : S.K.length ≤ 100000000) :
    Calls Tryz.prog 23 #[ptr r] W fun e W' => ∃ vr, e = .returned (.agg (rviewC S vr)) ∧ Row W' vr S.K ∧ Fresh W vr ∧ W.grownBy W' none := by
  obtain ⟨W1, hW1⟩ : ∃ W1, W1 = W.alloc (.cells #[.int .i64 0, .int .i64 0, .int .i64 0, .int .i64 0, .int .i64 0, .slice none 0 0, .bool false, .bool false] 34) := ⟨_, rfl⟩
  have g1 : W.grownBy W1 none := by rw [hW1]; exact grown_alloc _ _
  have b1 : Blk W1 W.heap.size rview0 34 := by rw [hW1]; exact Blk.new _ _ _
  have h1 := h.grown g1
  have hR := rruns_any h1 hok hH nK
  have hsz : W1.heap.size = W.heap.size + 1 := by rw [hW1]; exact alloc_size _ _
  have CN := h.ish.count hok
  have HV : Hid (rviewC S = fun vr => #[.int .i64 S.limit, .int .i64 S.read, .int .i64 S.high, .int .i64 S.final, .int .i64 (H.length : Int), vr, .bool S.ended, .bool S.reset]) := by
    rw [CN]; rfl
  have HK : Hid (∀ X, W1.grownBy X none → DR X r a c S H ∧ Blk X W.heap.size rview0 34) := fun X g => ⟨h1.grown g, b1.grown g⟩
  obtain ⟨q, hq⟩ : ∃ q, q = W.heap.size := ⟨_, rfl⟩
  have hrq : r ≠ q := by have := h.blk.lt; omega
  have hqr : q ≠ r := hrq.symm
  have G1 := hide g1
  have HSZ := hide hsz
  rw [← hq] at HK
  clear h hok h1 b1 g1 hsz nK CN
  go_enter Tryz.func23, Tryz.ntmps23
  go_wp2_with fail
  rw [← hW1, ← hq]
  clear hW1
  refine hR.mono ?_
  rintro e X ⟨v, rfl, r1, f1, g2⟩
  clear hR
  obtain ⟨a1, c1, rfl, -⟩ := r1.shape
  obtain ⟨hX, bX⟩ := unhide HK X g2
  obtain ⟨-, x0, x1, x2, x3, x4, x5, x6⟩ := hX.cells
  have tt := bX.thaws
  have z0 := bX.cell 0 _ rfl
  have z1 := bX.cell 1 _ rfl
  have z2 := bX.cell 2 _ rfl
  have z3 := bX.cell 3 _ rfl
  have z4 := bX.cell 4 _ rfl
  have z5 := bX.cell 5 _ rfl
  have z6 := bX.cell 6 _ rfl
  have z7 := bX.cell 7 _ rfl
  have FF : Hid (Blk (rput8 X q (.int .i64 S.limit) (.int .i64 S.read) (.int .i64 S.high) (.int .i64 S.final) (.int .i64 (H.length : Int)) (.slice a1 S.K.length c1) (.bool S.ended) (.bool S.reset)) q #[.int .i64 S.limit, .int .i64 S.read, .int .i64 S.high, .int .i64 S.final, .int .i64 (H.length : Int), .slice a1 S.K.length c1, .bool S.ended, .bool S.reset] 34 ∧ X.grownBy (rput8 X q (.int .i64 S.limit) (.int .i64 S.read) (.int .i64 S.high) (.int .i64 S.final) (.int .i64 (H.length : Int)) (.slice a1 S.K.length c1) (.bool S.ended) (.bool S.reset)) (some q)) := rput8_blk bX _ _ _ _ _ _ _ _
  have FIN : Hid (∀ W', X.grownBy W' (some q) → Row W' (.slice a1 S.K.length c1) S.K ∧ Fresh W (.slice a1 S.K.length c1) ∧ W.grownBy W' none) := fun W' p => ⟨r1.keepBut p (ne_r f1 (unhide HSZ) hq), fun k e => Nat.le_trans (unhide G1).size (f1 k e), gr_new (unhide G1) g2 p hq⟩
  clear hX bX r1 f1 g2 HK HSZ G1 hq
  generalize S.K.length = kn at *
  generalize hlen : H.length = N at *
  generalize S.reset = rs at *
  generalize S.ended = en at *
  generalize S.final = fn at *
  generalize S.high = hi at *
  generalize S.read = rd at *
  generalize S.limit = lm at *
  obtain ⟨Y, hY⟩ : ∃ Y, rput8 X q (.int .i64 lm) (.int .i64 rd) (.int .i64 hi) (.int .i64 fn) (.int .i64 (N : Int)) (.slice a1 kn c1) (.bool en) (.bool rs) = Y := ⟨_, rfl⟩
  rw [hY] at FF
  unfold rput8 at hY
  have HY := hide hY
  clear hY
  have w1 : IntKind.i64.wrap (N : Int) = (N : Int) := by rw [IntKind.wrap_i64]; omega
  go_wp2_with fail
  go_region_held3 (fun Y => Y.cell? ⟨r, 0, none⟩ = some (.int .i64 lm) ∧ Y.cell? ⟨r, 1, none⟩ = some (.int .i64 rd) ∧ Y.cell? ⟨r, 2, none⟩ = some (.int .i64 hi) ∧ Y.cell? ⟨r, 3, none⟩ = some (.int .i64 fn) ∧ Y.cell? ⟨r, 4, none⟩ = some (.slice a N c) ∧ Y.cell? ⟨r, 5, none⟩ = some (.bool en) ∧ Y.cell? ⟨r, 6, none⟩ = some (.bool rs)) (go_keep) (fail)
  go_wp2_with fail
  rw [unhide HY]
  have F1 : Blk Y.drew q #[.int .i64 lm, .int .i64 rd, .int .i64 hi, .int .i64 fn, .int .i64 (N : Int), .slice a1 kn c1, .bool en, .bool rs] 34 := (unhide FF).1
  have F2 : X.grownBy Y.drew (some q) := ⟨(unhide FF).2.os, (unhide FF).2.tape, (unhide FF).2.output, (unhide FF).2.size, (unhide FF).2.block⟩
  clear HY FF z0 z1 z2 z3 z4 z5 z6 z7 tt x0 x1 x2 x3 x4 x5 x6
  refine bodyPost_ret (results_cell_row rfl _ _ q 34 _ (0, 0) _ rfl F1 Tryz.underlying34 rfl Tryz.sizeRV) rfl ?_
  exact ⟨_, by rw [unhide HV], unhide FIN _ F2⟩
end
end Go.Proofs.YthihabjegpacaaaGreat

namespace Go.Proofs.YthihabjegpacaaaGreat
open Go.RowKit
set_option linter.unusedVariables false
set_option maxHeartbeats 4000000
set_option maxRecDepth 100000
/-- A row of cells of one kind, each one value. -/
def RowV (n0 : Nat) (t : TypeId) (X : World) (v : Value) (L : List Value) : Prop := X.ownsRow n0 t 1 v L.length L
section
variable {n0 : Nat} {t : TypeId} {X Y : World} {v : Value} {L : List Value}
theorem rowV_nil (n0 : Nat) (t : TypeId) (X : World) : RowV n0 t X (.slice none 0 0) [] := ⟨rfl, .inl ⟨rfl, rfl⟩⟩
theorem RowV.at (h : RowV n0 t X v L) : ∃ a c, v = .slice a L.length c ∧ L.length ≤ c ∧ c ≤ 9223372036854775807 ∧ (L = [] ∨ ∃ g, a = some ⟨g, 0, none⟩ ∧ n0 ≤ g ∧ g < X.heap.size ∧ (∃ cur, Blk X g cur t) ∧ ∀ i u, L[i]? = some u → X.cell? ⟨g, i, none⟩ = some u) := by
  have hl := h.lt
  rcases h.2 with ⟨e1, e2⟩ | ⟨g, c', cur, e1, q1, q2, q3, q4, q5, q6⟩
  · have : L = [] := List.length_eq_zero_iff.1 e2
    subst this
    exact ⟨none, 0, e1, Nat.le_refl _, Nat.zero_le _, .inl rfl⟩
  · refine ⟨_, c', e1, q3, by unfold maxLen at q4; omega, .inr ⟨g, rfl, q1, (hl g (by rw [e1]; rfl)).2, ⟨cur, q2⟩, fun i u hi => ?_⟩⟩
    have hlt := (List.getElem?_eq_some_iff.1 hi).1
    unfold World.cell?
    rw [q2]
    have h1 : (cur.toList.take (L.length * 1))[i]? = L[i]? := by rw [q6]
    rw [List.getElem?_take, if_pos (by omega), Array.getElem?_toList, hi] at h1
    simp only
    exact h1
theorem RowV.kept (h : RowV n0 t X v L) (hk : ∀ g, v.ownBlock = some g → Y.heap[g]? = X.heap[g]?) : RowV n0 t Y v L := by
  refine ⟨h.1, ?_⟩
  rcases h.2 with h2 | ⟨g, c, cur, e1, q1, q2, q3⟩
  · exact .inl h2
  · exact .inr ⟨g, c, cur, e1, q1, (hk g (by rw [e1]; rfl)).trans q2, q3⟩
theorem RowV.ne (h : RowV n0 t X v L) {g : Nat} {cs : Array Value} {t' : TypeId} (hb : Blk X g cs t') (ht : t' ≠ t) : v.ownBlock ≠ some g := fun e => by
  rcases h.2 with ⟨rfl, -⟩ | ⟨g', c, cur, rfl, q1, q2, q3⟩
  · cases e
  · cases e
    have hb' : X.heap[g']? = some (.cells cs t' (0, 0)) := hb
    rw [q2] at hb'
    injection hb' with hb'
    injection hb' with _ hb'
    exact ht hb'.symm
theorem RowV.ne2 (h : RowV n0 t X v L) {v' : Value} {t' : TypeId} {L' : List Value} (h' : RowV n0 t' X v' L') (ht : t' ≠ t) {g : Nat} (e : v'.ownBlock = some g) : v.ownBlock ≠ some g := by
  rcases h'.2 with ⟨rfl, -⟩ | ⟨g', c, cur, rfl, q1, q2, q3⟩
  · cases e
  · cases e
    exact h.ne (show Blk X g' cur t' from q2) ht
theorem RowV.set {g n c : Nat} (h : RowV n0 t X (.slice (some ⟨g, 0, none⟩) n c) L) (j : Nat) (u : Value) : RowV n0 t (X.setCell ⟨g, j, none⟩ u) (.slice (some ⟨g, 0, none⟩) n c) (if j < L.length then L.set j u else L) ∨ ¬ j < L.length := by
  by_cases hj : j < L.length
  · left
    rw [if_pos hj]
    rcases h.2 with ⟨e1, e2⟩ | ⟨g', c', cur, e1, q1, q2, q3, q4, q5, q6⟩
    · cases e1
    · cases e1
      have hb : Blk (X.setCell ⟨g, j, none⟩ u) g (cur.setIfInBounds j u) t := Blk.setC (show Blk X g cur t from q2) j _
      have el : (L.set j u).length = L.length := List.length_set
      refine ⟨?_, .inr ⟨g, c, cur.setIfInBounds j u, by rw [el], q1, hb, by rw [el]; exact q3, q4, by rw [Array.size_setIfInBounds]; exact q5, ?_⟩⟩
      · rw [el]; omega
      · rw [el, Array.toList_setIfInBounds, List.take_set, q6]
  · exact .inr hj
theorem RowV.put {g n c : Nat} (h : RowV n0 t X (.slice (some ⟨g, 0, none⟩) n c) L) (j : Nat) (u : Value) (hj : j < L.length) : RowV n0 t (X.setCell ⟨g, j, none⟩ u) (.slice (some ⟨g, 0, none⟩) n c) (L.set j u) := by
  have := (h.set j u).resolve_right (fun q => q hj)
  rw [if_pos hj] at this
  exact this
end

/-- One value more. -/
theorem rowV_app (n0 : Nat) (W : World) (ts t : TypeId) (z : Value) (bytes : Nat) (v : Value) (L : List Value) (u : Value) (g : Nat) (c : Nat) (hts : Tryz.prog.underlying ts = some (.slice t)) (hinfo : (Tryz.prog.info? t).map (fun i => (i.zero, i.size, i.bytes)) = some (some z, 1, bytes)) (hz1 : z.cells.size = 1) (hu : u.oneCell' = true) (hb8 : bytes ≤ 32)
    (h : RowV n0 t W v L) (hn : n0 ≤ W.heap.size) (hc : W.cell? ⟨g, 0, none⟩ = some u) (hb : L.length + 1 ≤ 1000000000000) :
    ∃ a' c' W', (Builtin.append_ #[ts, ts] ts #[v, .slice (some ⟨g, 0, none⟩) 1 c]).run Tryz.prog W = .ok (.slice a' (L.length + 1) c') W' ∧ RowV n0 t W' (.slice a' (L.length + 1) c') (L ++ [u]) ∧ W.grownBy W' v.ownBlock ∧ ((Value.slice a' (L.length + 1) c').ownBlock = v.ownBlock ∨ (Value.slice a' (L.length + 1) c').ownBlock = some W.heap.size) := by
  obtain ⟨i, hi, hz, hs, hby⟩ := info_parts hinfo
  have hbb : (L.length + 1) * bytes ≤ 140737488355328 := Nat.le_trans (Nat.mul_le_mul_left _ hb8) (by omega)
  have hnews : ∀ j x, ([u] : List Value)[j]? = some x → W.cell? ((⟨g, 0, none⟩ : Addr).add j) = some x := fun j x hj => by
    match j, hj with
    | 0, hj => cases hj; exact hc
  have h1 : ∀ x ∈ [u], x.oneCell' = true := fun x hx => by simp at hx; rw [hx]; exact hu
  obtain ⟨v', W', hr, ho, hgr, hnil⟩ := run_append_own (P := Tryz.prog) W n0 ts ts t i z 1 bytes hts hi hz hs hby hz1 (by decide) v L.length L h ⟨g, 0, none⟩ 1 c [u] rfl hnews h1 (by unfold maxLen; omega) hbb hn
  have e2 : (L ++ [u]).length = L.length + 1 := by simp
  obtain ⟨a', c', rfl⟩ : ∃ a' c', v' = .slice a' (L.length + 1) c' := by
    rcases ho.2 with ⟨-, e⟩ | ⟨g', c', cur, e1, -⟩
    · omega
    · exact ⟨_, _, e1⟩
  refine ⟨a', c', W', hr, by unfold RowV; rw [e2]; exact ho, hgr, ?_⟩
  rcases h.2 with ⟨rfl, hl⟩ | ⟨g', cap, cur, rfl, hbg, hgg, hnc, hcm, hcs, htake⟩
  · have := run_append_nil (P := Tryz.prog) W ts ts t i z hts hi hz ⟨g, 0, none⟩ 1 c [u] (by rw [hs]; rfl) hnews (by omega) (by omega) (by rw [hby]; omega)
    rw [this] at hr
    injection hr with e1 e2
    rw [← e1]
    exact .inr rfl
  · by_cases hroom : L.length + 1 ≤ cap
    · have := run_append_room (P := Tryz.prog) W ts ts t i hts hi g' L.length cap cur hgg ⟨g, 0, none⟩ 1 c [u] (by rw [hs]; rfl) hnews h1 hroom (by rw [hs, hcs]; show L.length * 1 + 1 ≤ cap * 1; omega)
      rw [this] at hr
      injection hr with e1 e2
      rw [← e1]
      exact .inl rfl
    · have := run_append_grow (P := Tryz.prog) W ts ts t i z hts hi hz ⟨g', 0, none⟩ L.length cap L (by rw [hs]; exact h.1) (h.cells (g := g') rfl) ⟨g, 0, none⟩ 1 c [u] (by rw [hs]; rfl) hnews (by omega) (by omega) (growslice_fits (by omega) (by rw [hby]; exact hbb))
      rw [this] at hr
      injection hr with e1 e2
      rw [← e1]
      exact .inr rfl

abbrev uV (L : List Int) : List Value := L.map (Value.int .u8)
abbrev iV (L : List Int) : List Value := L.map (Value.int .i64)

/-- Lists that their owner has written full. -/
structure En where
  ba : Option Addr
  bn : Nat
  bc : Nat
  ra : Option Addr
  rn : Nat
  rc : Nat
  m : Nat
def En.cs (e : En) : List Value := [.slice e.ba e.bn e.bc, .slice e.ra e.rn e.rc, .int .i64 (e.m : Int)]
def ena (e : En) : Array Value := #[.slice e.ba e.bn e.bc, .slice e.ra e.rn e.rc, .int .i64 (e.m : Int)]
structure EOk (w : World) (V : Nat → Prop) (e : En) : Prop where
  bc : e.bn ≤ e.bc ∧ e.bc ≤ 9223372036854775807
  rc : e.rn ≤ e.rc ∧ e.rc ≤ 9223372036854775807
  m : 20 ≤ e.m ∧ e.m ≤ 219
  b : e.bn = 0 ∨ ∃ g, e.ba = some ⟨g, 0, none⟩ ∧ V g ∧ (∃ cur, Blk w g cur 5) ∧ ∀ i, i < e.bn → w.cell? ⟨g, i, none⟩ = some (.int .u8 (e.m : Int))
  r : e.rn = 0 ∨ ∃ g, e.ra = some ⟨g, 0, none⟩ ∧ V g ∧ (∃ cur, Blk w g cur 69) ∧ ∀ i, i < e.rn → w.cell? ⟨g, i * 2, none⟩ = some (.int .i64 (e.m : Int)) ∧ w.cell? ⟨g, i * 2 + 1, none⟩ = some (.int .i64 (-1))
theorem EOk.kept {w w' : World} {V : Nat → Prop} {e : En} (h : EOk w V e) (hk : ∀ g, V g → g < w.heap.size → w'.heap[g]? = w.heap[g]?) : EOk w' V e := by
  refine ⟨h.bc, h.rc, h.m, h.b.imp id fun ⟨g, e1, hv, ⟨cur, hb⟩, hc⟩ => ⟨g, e1, hv, ⟨cur, (hk g hv hb.lt).trans hb⟩, fun i hi => ?_⟩, h.r.imp id fun ⟨g, e1, hv, ⟨cur, hb⟩, hc⟩ => ⟨g, e1, hv, ⟨cur, (hk g hv hb.lt).trans hb⟩, fun i hi => ?_⟩⟩
  · rw [World.cell?_of_block (w := w) (w' := w') (hk g hv hb.lt)]
    exact hc i hi
  · rw [World.cell?_of_block (w := w) (w' := w') (hk g hv hb.lt), World.cell?_of_block (w := w) (w' := w') (hk g hv hb.lt)]
    exact hc i hi
theorem EOk.mono {w : World} {V V' : Nat → Prop} {e : En} (h : EOk w V e) (hv : ∀ g, V g → V' g) : EOk w V' e :=
  ⟨h.bc, h.rc, h.m, h.b.imp id fun ⟨g, e1, h1, hc⟩ => ⟨g, e1, hv g h1, hc⟩, h.r.imp id fun ⟨g, e1, h1, hc⟩ => ⟨g, e1, hv g h1, hc⟩⟩

/-- The owner's list of them, in cell 0 of the owner's block. -/
structure OL (n0 : Nat) (X : World) (ob : Nat) (vl : Value) (rest : List Value) (V : Nat → Prop) (es : List En) : Prop where
  blk : Blk X ob (vl :: rest).toArray 38
  row : X.ownsRow n0 83 3 vl es.length (es.flatMap En.cs)
  all : ∀ e ∈ es, EOk X V e
  nb : n0 ≤ ob
  nV : ∀ g, V g → n0 ≤ g ∧ g < X.heap.size ∧ g ≠ ob ∧ vl.ownBlock ≠ some g
/-- The owner's own blocks. -/
def Om (ob : Nat) (vl : Value) (g : Nat) : Prop := g = ob ∨ vl.ownBlock = some g

theorem eflat_get (T : List En) : ∀ (i : Nat) (x : En) (j : Nat) (v : Value), T[i]? = some x → x.cs[j]? = some v → (T.flatMap En.cs)[i * 3 + j]? = some v := by
  induction T with
  | nil => intro i x j v h; simp at h
  | cons y T ih =>
    intro i x j v h hj
    have hl : y.cs.length = 3 := rfl
    rw [List.flatMap_cons]
    cases i with
    | zero =>
      simp at h
      subst h
      have : j < y.cs.length := (List.getElem?_eq_some_iff.1 hj).1
      rw [Nat.zero_mul, Nat.zero_add, List.getElem?_append_left this]
      exact hj
    | succ i =>
      rw [List.getElem?_append_right (by rw [hl]; omega), hl, show (i + 1) * 3 + j - 3 = i * 3 + j by omega]
      exact ih i x j v (by simpa using h) hj

section
variable {n0 : Nat} {X Y : World} {ob : Nat} {vl : Value} {rest : List Value} {V : Nat → Prop} {es : List En}
theorem OL.at (h : OL n0 X ob vl rest V es) : ∃ a c, vl = .slice a es.length c ∧ es.length ≤ c ∧ c ≤ 9223372036854775807 ∧ (es = [] ∨ ∃ g, a = some ⟨g, 0, none⟩ ∧ ∀ i x, es[i]? = some x → X.cell? ⟨g, i * 3, none⟩ = some (.slice x.ba x.bn x.bc) ∧ X.cell? ⟨g, i * 3 + 1, none⟩ = some (.slice x.ra x.rn x.rc) ∧ X.cell? ⟨g, i * 3 + 2, none⟩ = some (.int .i64 (x.m : Int))) := by
  rcases h.row.2 with ⟨e1, e2⟩ | ⟨g, c', cur, e1, q1, q2, q3, q4, q5, q6⟩
  · have : es = [] := List.length_eq_zero_iff.1 e2
    subst this
    exact ⟨none, 0, e1, Nat.le_refl _, Nat.zero_le _, .inl rfl⟩
  · refine ⟨_, c', e1, q3, by unfold maxLen at q4; omega, .inr ⟨g, rfl, fun i x hi => ?_⟩⟩
    have hlt := (List.getElem?_eq_some_iff.1 hi).1
    have hc : ∀ j v, x.cs[j]? = some v → X.cell? ⟨g, i * 3 + j, none⟩ = some v := fun j v hj => by
      have hj3 : j < 3 := (List.getElem?_eq_some_iff.1 hj).1
      unfold World.cell?
      rw [q2]
      have h1 : (cur.toList.take (es.length * 3))[i * 3 + j]? = (es.flatMap En.cs)[i * 3 + j]? := by rw [q6]
      rw [List.getElem?_take, if_pos (by omega), Array.getElem?_toList, eflat_get es i x j v hi hj] at h1
      simp only
      exact h1
    exact ⟨hc 0 _ rfl, hc 1 _ rfl, hc 2 _ rfl⟩
theorem own_kept {w w' : World} {b : Nat} {e : TypeId} {sz n : Nat} {v : Value} {xs : List Value} (h : w.ownsRow b e sz v n xs) (hk : ∀ g, v.ownBlock = some g → w'.heap[g]? = w.heap[g]?) : w'.ownsRow b e sz v n xs := by
  refine ⟨h.1, ?_⟩
  rcases h.2 with h2 | ⟨g, c, cur, e1, q1, q2, q3⟩
  · exact .inl h2
  · exact .inr ⟨g, c, cur, e1, q1, (hk g (by rw [e1]; rfl)).trans q2, q3⟩
theorem OL.kept (h : OL n0 X ob vl rest V es) (hs : X.heap.size ≤ Y.heap.size) (hk : ∀ g, Om ob vl g ∨ V g → g < X.heap.size → Y.heap[g]? = X.heap[g]?) : OL n0 Y ob vl rest V es :=
  ⟨(hk ob (.inl (.inl rfl)) h.blk.lt).trans h.blk, own_kept h.row fun g e => hk g (.inl (.inr e)) (h.row.lt g e).2, fun e he => (h.all e he).kept fun g hv hl => hk g (.inr hv) hl, h.nb, fun g hv => by have := h.nV g hv; exact ⟨this.1, by omega, this.2.2⟩⟩
theorem OL.grown (h : OL n0 X ob vl rest V es) (g : X.grownBy Y none) : OL n0 Y ob vl rest V es := h.kept g.size fun k _ hl => g.block k hl (by simp)
theorem OL.cell0 (h : OL n0 X ob vl rest V es) : X.cell? ⟨ob, 0, none⟩ = some vl := h.blk.cell 0 _ rfl
end
end Go.Proofs.YthihabjegpacaaaGreat

namespace Go.Proofs.YthihabjegpacaaaGreat
open Go.RowKit
set_option linter.unusedVariables false
set_option maxHeartbeats 4000000
set_option maxRecDepth 100000

/-- The room behind bytes that are lent is marked. -/
def lentL (p : List Int) (k : Nat) : List Int := p ++ (List.replicate k 201 ++ List.replicate (8 - k) 0)
theorem lentL_len (p : List Int) (k : Nat) (hk : k ≤ 8) : (lentL p k).length = p.length + 8 := by unfold lentL; simp; omega
theorem lentL_set (p : List Int) (k : Nat) (hk : k < 8) : (lentL p k).set (p.length + k) 201 = lentL p (k + 1) := by
  unfold lentL
  rw [List.set_append_right _ _ (by omega), show p.length + k - p.length = k by omega, List.set_append_right _ _ (by simp)]
  have e : 8 - k = (8 - (k + 1)) + 1 := by omega
  rw [List.length_replicate, Nat.sub_self, e, List.replicate_succ, List.set_cons_zero, List.replicate_succ' (n := k)]
  simp
theorem by8_set (l : List Int) (i : Nat) (x : Int) : (by8 l).setIfInBounds i (.int .u8 x) = by8 (l.set i x) := by
  unfold by8
  rw [List.map_set]
  simp

theorem lent_any (X : World) (a : Option Addr) (n c : Nat) (p : List Int) (hp : Rd X a p) (hn : p.length = n) (hb : n ≤ 1000000000) :
    Calls Tryz.prog 14 #[.slice a n c] X fun e Y => ∃ g, e = .returned (.slice (some ⟨g, 0, none⟩) n (n + 8)) ∧ Blk Y g (by8 (p ++ List.replicate 8 201)) 5 ∧ X.heap.size ≤ g ∧ X.grownBy Y none := by
  have hmk := fun Z => mk_zeros (n + 8) (by omega) Z
  obtain ⟨W0, hW0⟩ : ∃ W0, W0 = X.alloc (.cells (by8 (List.replicate (n + 8) 0)) 5) := ⟨_, rfl⟩
  have g0 : X.grownBy W0 none := by rw [hW0]; exact grown_alloc _ _
  have b0 : Blk W0 X.heap.size (by8 (List.replicate (n + 8) 0)) 5 := by rw [hW0]; exact Blk.new _ _ _
  obtain ⟨g, hg⟩ : ∃ g, g = X.heap.size := ⟨_, rfl⟩
  have hcp : ∃ W1, (Builtin.copy_ #[36, 36] 3 #[.slice (some ⟨g, 0, none⟩) (n + 8) (n + 8), .slice a n c]).run Tryz.prog W0 = .ok (goInt n) W1 ∧ Blk W1 g (by8 (lentL p 0)) 5 ∧ X.grownBy W1 none := by
    rw [← hg] at b0
    by_cases hz : n = 0
    · have hp0 : p = [] := List.length_eq_zero_iff.1 (by omega)
      have := run_copy_none (P := Tryz.prog) W0 36 36 3 5 (some ⟨g, 0, none⟩) a (n + 8) (n + 8) n c Tryz.underlying36 (by kernel_rfl) (by rw [hz]; simp)
      refine ⟨W0, by rw [this, hz]; rfl, ?_, g0⟩
      have e : lentL p 0 = List.replicate (n + 8) 0 := by unfold lentL; rw [hp0, hz]; rfl
      rw [e]
      exact b0
    · obtain ⟨pb, off, rfl, hc⟩ := hp.2 (fun e => hz (by rw [← hn, e]; rfl))
      have hmin : Nat.min n (n + 8) = n := Nat.min_eq_left (by omega)
      have := run_copy8 W0 3 g 0 (n + 8) (n + 8) ⟨pb, off, none⟩ n c [] (List.replicate n 0) (List.replicate 8 0) p (by rw [List.nil_append, List.replicate_append_replicate]; exact b0) rfl (by simp [hn]) (by rw [hmin]; exact hn) (fun j x hj => by
        rw [Addr.add_lit]
        exact (hp.grow g0).cell hj)
      rw [hmin] at this
      refine ⟨_, this, ?_, ?_⟩
      · have := b0.row (by8 ([] ++ (p ++ List.replicate 8 0)))
        exact this
      · exact grown_row g0 g _ (by omega)
  obtain ⟨W1, hr, b1, g1⟩ := hcp
  have HR := hide hr
  have I0 : Hid (Blk W1 g (by8 (lentL p 0)) 5 ∧ X.grownBy W1 none) := ⟨b1, g1⟩
  have HN := hide hn
  have HW0 := hide hW0
  have HG := hide hg
  clear hr b1 g1 b0 g0 hp hn hW0 hg
  go_enter Tryz.func14, Tryz.ntmps14
  go_upto_region 2 with (at_make; refine wpList_make_run _ rfl 36 _ _ rfl _ _ rfl rfl (hmk _) ?_)
  rw [← unhide HW0, ← unhide HG]
  clear hmk
  have hr := unhide HR
  unfold goInt at hr
  go_wp2
  clear hr
  go_loopw [4] (fun i Z => ∃ k : Nat, k ≤ 8 ∧ i = .int .i64 ((n + k : Nat) : Int) ∧ Hid (Blk Z g (by8 (lentL p k)) 5 ∧ X.grownBy Z none)) (fun i _ => n + 9 - (intOf i).toNat)
  case atStart => exact ⟨0, Nat.zero_le _, rfl, I0⟩
  case round =>
    clear I0
    obtain ⟨k, hk, rfl, I⟩ := hrel
    obtain ⟨Z, hZ⟩ : ∃ Z, Z = wr := ⟨_, rfl⟩
    subst hZ
    obtain ⟨j, hj⟩ : ∃ j, j = n + k := ⟨_, rfl⟩
    rw [← hj]
    by_cases hlt : k < 8
    · obtain ⟨hb1, hg1⟩ := unhide I
      have fz := hb1.thaw j
      have hcx : ∃ v, Z.cell? ⟨g, j, none⟩ = some v := by
        have : j < (lentL p k).length := by rw [lentL_len p k hk, unhide HN]; omega
        exact ⟨_, hb1.cell j _ (by8_get _ _ _ (List.getElem?_eq_getElem this))⟩
      obtain ⟨v, hv⟩ := hcx
      have NX : Hid (Blk (Z.setCell ⟨g, j, none⟩ (.int .u8 201)) g (by8 (lentL p (k + 1))) 5 ∧ X.grownBy (Z.setCell ⟨g, j, none⟩ (.int .u8 201)) none) := by
        refine ⟨?_, grown_set hg1 g j _ (by rw [unhide HG]; exact Nat.le_refl _)⟩
        rw [← lentL_set p k hlt, ← by8_set, unhide HN, ← hj]
        exact hb1.setC j _
      have hjn : (j : Int) < ((n + 8 : Nat) : Int) := by omega
      have hjn2 : (j : Int) < (n : Int) + 8 := by omega
      have hj0 : (0 : Int) ≤ (j : Int) := by omega
      have hj8 : j < n + 8 := by omega
      have HJ := hide hj
      have HLT := hide hlt
      clear hb1 hg1 I hk hlt hj
      go_wp2
      exact ⟨⟨k + 1, unhide HLT, by rw [← Nat.add_assoc, ← unhide HJ]; go_num, NX⟩, by simp [intOf]; have := unhide HJ; have := unhide HLT; omega⟩
    · obtain rfl : k = 8 := by omega
      have hno : ¬ (j : Int) < ((n + 8 : Nat) : Int) := by omega
      have hno2 : ¬ (j : Int) < (n : Int) + 8 := by omega
      have hno3 : ¬ j < n + 8 := by omega
      have FIN : Hid (Blk Z g (by8 (p ++ List.replicate 8 201)) 5 ∧ X.heap.size ≤ g ∧ X.grownBy Z none) := by
        refine ⟨?_, by rw [unhide HG]; exact Nat.le_refl _, (unhide I).2⟩
        have := (unhide I).1
        have e : lentL p 8 = p ++ List.replicate 8 201 := by unfold lentL; simp
        rw [e] at this
        exact this
      have hn8 : (n : Int) ≤ (n : Int) + 8 := by omega
      have hn0 : (0 : Int) ≤ (n : Int) := by omega
      have hn9 : (n : Int) ≤ ((n + 8 : Nat) : Int) := by omega
      clear I hj hk hlt
      go_wp2
      go_ret
      exact ⟨g, rfl, unhide FIN⟩
end Go.Proofs.YthihabjegpacaaaGreat

namespace Go.Proofs.YthihabjegpacaaaGreat
open Go.RowKit
set_option linter.unusedVariables false
set_option maxHeartbeats 4000000
set_option maxRecDepth 100000

def backL (l : List Int) (k : Nat) : List Int := List.replicate k 202 ++ l.drop k
theorem backL_len (l : List Int) (k : Nat) (hk : k ≤ l.length) : (backL l k).length = l.length := by unfold backL; simp; omega
theorem backL_get (l : List Int) (k : Nat) (x : Int) (hx : l[k]? = some x) : (backL l k)[k]? = some x := by
  unfold backL
  rw [List.getElem?_append_right (by simp), List.length_replicate, Nat.sub_self, List.getElem?_drop, Nat.add_zero]
  exact hx
theorem backL_set (l : List Int) (k : Nat) (hk : k < l.length) : (backL l k).set k 202 = backL l (k + 1) := by
  unfold backL
  rw [List.set_append_right _ _ (by simp), List.length_replicate, Nat.sub_self, List.drop_eq_getElem_cons hk, List.set_cons_zero, List.replicate_succ' (n := k)]
  simp

theorem back_any (X : World) (g : Nat) (a : Option Addr) (n c : Nat) (p : List Int) (hg : Blk X g (by8 (p ++ List.replicate 8 201)) 5) (hp : Rd X a p) (hne : ∀ b off, a = some ⟨b, off, none⟩ → p ≠ [] → b ≠ g) (hn : p.length = n) (hb : n ≤ 1000000000) :
    Calls Tryz.prog 15 #[.slice (some ⟨g, 0, none⟩) n (n + 8), .slice a n c] X fun e Y => e = .returned (.bool true) ∧ X.grownBy Y (some g) := by
  obtain ⟨q, hq⟩ : ∃ q, q = p ++ List.replicate 8 201 := ⟨_, rfl⟩
  have hql : q.length = n + 8 := by rw [hq]; simp [hn]
  have I0 : Hid (Blk X g (by8 (backL q 0)) 5 ∧ X.grownBy X (some g)) := by
    refine ⟨?_, World.grownBy.refl _ _⟩
    have e : backL q 0 = p ++ List.replicate 8 201 := by unfold backL; simp [hq]
    rw [e]
    exact hg
  have QP : Hid (∀ k, k < n → ∃ x b off, q[k]? = some x ∧ a = some ⟨b, off, none⟩ ∧ ∀ Z, X.grownBy Z (some g) → Z.cell? ⟨b, off + k, none⟩ = some (.int .u8 x)) := fun k hk => by
    obtain ⟨x, hx⟩ : ∃ x, p[k]? = some x := ⟨_, List.getElem?_eq_getElem (by omega)⟩
    have hpn : p ≠ [] := fun e => by rw [e] at hx; simp at hx
    obtain ⟨b, off, e, hc⟩ := hp.2 hpn
    refine ⟨x, b, off, by rw [hq, List.getElem?_append_left (by omega)]; exact hx, e, fun Z gz => ?_⟩
    have hlt := World.block_lt_of_cell? _ _ (hc k (by omega))
    rw [World.cell?_of_block (w := X) (w' := Z) (gz.block b hlt (fun z => by cases z; exact hne _ off e hpn rfl)), hc k (by omega)]
    simp [List.getD, hx]
  have QR : Hid (∀ k, n ≤ k → k < n + 8 → q[k]? = some 201) := fun k h1 h2 => by
    rw [hq, List.getElem?_append_right (by omega), List.getElem?_replicate, if_pos (by omega)]
  have HQL := hide hql
  clear hq hp hne hn hg hql
  have s1 : (0 : Int) ≤ (n : Int) + 8 := by omega
  have s2 : (n : Int) + 8 ≤ ((n + 8 : Nat) : Int) := by omega
  go_enter Tryz.func15, Tryz.ntmps15
  go_wp2
  go_loopw [6, 7] (fun o i Z => ∃ k : Nat, k ≤ n + 8 ∧ o = .bool true ∧ i = .int .i64 (k : Int) ∧ Hid (Blk Z g (by8 (backL q k)) 5 ∧ X.grownBy Z (some g))) (fun _ i _ => n + 9 - (intOf i).toNat)
  case atStart => exact ⟨0, Nat.zero_le _, rfl, rfl, I0⟩
  case round =>
    clear I0
    obtain ⟨k, hk, rfl, rfl, I⟩ := hrel
    obtain ⟨Z, hZ⟩ : ∃ Z, Z = wr := ⟨_, rfl⟩
    subst hZ
    by_cases hlt : k < n + 8
    · obtain ⟨hb1, hg1⟩ := unhide I
      have hkq : k < q.length := by rw [unhide HQL]; exact hlt
      have NX : Hid (∀ r, Blk ((Z.drewN r).setCell ⟨g, k, none⟩ (.int .u8 202)) g (by8 (backL q (k + 1))) 5 ∧ X.grownBy ((Z.drewN r).setCell ⟨g, k, none⟩ (.int .u8 202)) (some g)) := fun r => by
        refine ⟨?_, grown_at (grown_drewS hg1 r) k _⟩
        rw [← backL_set q k hkq, ← by8_set]
        exact (hb1.drewN r).setC k _
      have fz : ∀ r, (Z.drewN r).frozen? ⟨g, k, none⟩ = false := fun r => (hb1.drewN r).thaw k
      have fz0 := hb1.thaw k
      have hk0 : (0 : Int) ≤ (k : Int) := by omega
      have hk8 : (k : Int) < (n : Int) + 8 := by omega
      have hk9 : (k : Int) < ((n + 8 : Nat) : Int) := by omega
      by_cases hkn : k < n
      · obtain ⟨x, b, off, hx, rfl, hc⟩ := unhide QP k hkn
        have c0 := hb1.cell k _ (by8_get _ _ _ (backL_get q k x hx))
        have c1 := hc Z hg1
        have hkn1 : (k : Int) < (n : Int) := by omega
        have hkd : decide ((k : Int) < (n : Int)) = true := decide_eq_true hkn1
        have hxx : (x == x) = true := by simp
        have HLT := hide hlt
        clear hb1 hg1 I hk hlt hc hx hkq
        go_wp2
        go_quiet (fail)
        go_wp2
        exact ⟨⟨k + 1, unhide HLT, rfl, by go_num, unhide NX _⟩, by simp [intOf]; have := unhide HLT; omega⟩
      · have hx := unhide QR k (by omega) hlt
        have c0 := hb1.cell k _ (by8_get _ _ _ (backL_get q k 201 hx))
        have hkn1 : ¬ (k : Int) < (n : Int) := by omega
        have hkd : decide ((k : Int) < (n : Int)) = false := decide_eq_false hkn1
        have hge : (n : Int) ≤ (k : Int) := by omega
        have hged : decide ((n : Int) ≤ (k : Int)) = true := decide_eq_true hge
        have hkn2 : ¬ k < n := hkn
        have hge2 : n ≤ k := by omega
        have HLT := hide hlt
        clear hb1 hg1 I hk hlt hx hkq hkn
        go_wp2
        go_quiet (fail)
        go_wp2
        exact ⟨⟨k + 1, unhide HLT, rfl, by go_num, unhide NX _⟩, by simp [intOf]; have := unhide HLT; omega⟩
    · obtain rfl : k = n + 8 := by omega
      have hno : ¬ ((n + 8 : Nat) : Int) < ((n + 8 : Nat) : Int) := by omega
      have hno2 : ¬ ((n + 8 : Nat) : Int) < (n : Int) + 8 := by omega
      have G := hide (unhide I).2
      clear I
      go_wp2
      go_ret
      exact ⟨rfl, unhide G⟩
end Go.Proofs.YthihabjegpacaaaGreat

namespace Go.Proofs.YthihabjegpacaaaGreat
open Go.RowKit
set_option linter.unusedVariables false
set_option maxHeartbeats 4000000
set_option maxRecDepth 100000

section
variable {n0 : Nat} {X Y : World} {ob : Nat} {vl : Value} {rest : List Value} {V : Nat → Prop} {es : List En}

theorem looks_any (h : OL n0 X ob vl rest V es) (hb : es.length ≤ 1000000000) (hs : ∀ e ∈ es, e.bn ≤ 1000000000 ∧ e.rn ≤ 1000000000) :
    Calls Tryz.prog 25 #[ptr ob] X fun e Y => e = .returned (.bool true) ∧ X.grownBy Y none := by
  obtain ⟨la, lc, rfl, hl1, hl2, -⟩ := h.at
  have H := hide h
  have HS := hide hs
  have I0 : Hid (X.grownBy X none) := World.grownBy.refl _ _
  generalize hN : es.length = N at *
  have HN := hide hN
  clear h hs hN
  go_enter Tryz.func25, Tryz.ntmps25
  go_wp2
  go_loopw [3] (fun i Z => ∃ k : Nat, k ≤ N ∧ i = .int .i64 (k : Int) ∧ Hid (X.grownBy Z none)) (fun i _ => N - (intOf i).toNat)
  case atStart => exact ⟨0, Nat.zero_le _, rfl, I0⟩
  case round =>
    clear I0
    obtain ⟨k, hk, rfl, I⟩ := hrel
    obtain ⟨Z, hZ⟩ : ∃ Z, Z = wr := ⟨_, rfl⟩
    subst hZ
    have hO := (unhide H).grown (unhide I)
    have c0 := hO.cell0
    by_cases hlt : k < N
    · obtain ⟨x, hx⟩ : ∃ x, es[k]? = some x := ⟨_, List.getElem?_eq_getElem (by rw [unhide HN]; exact hlt)⟩
      obtain ⟨a0, c0', e0, -, -, hr⟩ := hO.at
      obtain ⟨g, eg, hc⟩ := hr.resolve_left (fun e => by rw [e] at hx; simp at hx)
      rw [unhide HN] at e0
      injection e0 with e1 e2 e3
      subst e1
      subst eg
      obtain ⟨r0, r1, r2⟩ := hc k x hx
      have hxm := List.mem_of_getElem? hx
      have hE := hO.all x hxm
      have hsz := unhide HS x hxm
      obtain ⟨Z1, hZ1⟩ : ∃ Z1, Z1 = Z.alloc (.cells (ena x) 83) := ⟨_, rfl⟩
      have g1 : Z.grownBy Z1 none := by rw [hZ1]; exact grown_alloc _ _
      have b1 : Blk Z1 Z.heap.size (ena x) 83 := by rw [hZ1]; exact Blk.new _ _ _
      have hE1 : EOk Z1 V x := hE.kept fun g _ hl => g1.block g hl (by simp)
      have HE1 := hide hE1
      have B1 := hide b1
      have G1 := hide (grown_trans (unhide I) g1)
      have hkN : (k : Int) < (N : Int) := by omega
      have hk0 : (0 : Int) ≤ (k : Int) := by omega
      have HLT := hide hlt
      unfold ena at hZ1
      obtain ⟨hm1, hm2⟩ := hE1.m
      clear hO hc hr hE hE1 b1 g1 hxm hx hlt hk e2
      go_upto_region 5 with fail
      rw [← hZ1]
      clear hZ1 c0 r0 r1 r2
      generalize Z.heap.size = pb at *
      have y0 : Z1.cell? ⟨pb, 0, none⟩ = some (.slice x.ba x.bn x.bc) := (unhide B1).cell 0 _ rfl
      have y1 : Z1.cell? ⟨pb, 1, none⟩ = some (.slice x.ra x.rn x.rc) := (unhide B1).cell 1 _ rfl
      have y2 : Z1.cell? ⟨pb, 2, none⟩ = some (.int .i64 (x.m : Int)) := (unhide B1).cell 2 _ rfl
      go_wp2
      go_loopw [5] (fun i W => ∃ j q : Nat, j ≤ x.bn ∧ i = .int .i64 (j : Int) ∧ W = Z1.drewN q) (fun i _ => x.bn - (intOf i).toNat)
      case atStart => exact ⟨0, 0, Nat.zero_le _, rfl, rfl⟩
      case round =>
        obtain ⟨j, q, hj, rfl, hW⟩ := hrel
        subst hW
        by_cases hjl : j < x.bn
        · obtain ⟨gb, hba, -, -, hcb⟩ := (unhide HE1).b.resolve_left (by omega)
          have hz := hcb j hjl
          rw [hba] at y0
          have hjn : (j : Int) < (x.bn : Int) := by omega
          have hj0 : (0 : Int) ≤ (j : Int) := by omega
          have hmm : ((x.m : Int) != (x.m : Int)) = false := by simp
          have hw8 : IntKind.u8.wrap (x.m : Int) = (x.m : Int) := by rw [IntKind.wrap_u8]; omega
          have HJL := hide hjl
          clear hcb hba hjl hj
          go_wp2
          go_quiet (fail)
          go_wp2
          exact ⟨⟨j + 1, _, unhide HJL, by go_num, rfl⟩, by simp [intOf]; have := unhide HJL; omega⟩
        · obtain rfl : j = x.bn := by omega
          have hno : ¬ (x.bn : Int) < (x.bn : Int) := by omega
          clear hj hjl
          go_wp2
          go_loopw [6] (fun i W => ∃ j q : Nat, j ≤ x.rn ∧ i = .int .i64 (j : Int) ∧ W = Z1.drewN q) (fun i _ => x.rn - (intOf i).toNat)
          case atStart => exact ⟨0, _, Nat.zero_le _, rfl, rfl⟩
          case round =>
            obtain ⟨j, q2, hj, rfl, hW⟩ := hrel
            subst hW
            by_cases hjl : j < x.rn
            · obtain ⟨gb, hba, -, -, hcb⟩ := (unhide HE1).r.resolve_left (by omega)
              obtain ⟨hz, hz2⟩ := hcb j hjl
              rw [hba] at y1
              have hjn : (j : Int) < (x.rn : Int) := by omega
              have hj0 : (0 : Int) ≤ (j : Int) := by omega
              have hmm : ((x.m : Int) != (x.m : Int)) = false := by simp
              have HJL := hide hjl
              clear hcb hba hjl hj
              go_wp2
              go_quiet (fail)
              go_wp2
              exact ⟨⟨j + 1, _, unhide HJL, by go_num, rfl⟩, by simp [intOf]; have := unhide HJL; omega⟩
            · obtain rfl : j = x.rn := by omega
              have hno2 : ¬ (x.rn : Int) < (x.rn : Int) := by omega
              clear hj hjl
              go_wp2
              exact ⟨⟨k + 1, unhide HLT, by go_num, grown_trans (unhide G1) (grown_drewN _ _)⟩, by simp [intOf]; have := unhide HLT; omega⟩
    · obtain rfl : k = N := by omega
      have hno : ¬ (k : Int) < (k : Int) := by omega
      clear hO
      go_wp2
      go_ret
      exact ⟨rfl, unhide I⟩
end
end Go.Proofs.YthihabjegpacaaaGreat

namespace Go.Proofs.YthihabjegpacaaaGreat
open Go.RowKit
set_option linter.unusedVariables false
set_option maxHeartbeats 4000000
set_option maxRecDepth 100000
theorem kp_own {D : Nat → Prop} {X A C : World} {v : Value} (h : Kp D X A) (k : A.grownBy C v.ownBlock) (hv : ∀ g, v.ownBlock = some g → D g ∨ X.heap.size ≤ g) : Kp D X C :=
  ⟨k.os.trans h.os, k.tape.trans h.tape, k.output.trans h.output, Nat.le_trans h.size k.size, fun g hg hn => by
    rw [k.block g (Nat.lt_of_lt_of_le hg h.size) (fun e => hn ((hv g e.symm).resolve_right (by omega)))]
    exact h.block g hg hn⟩

def fillB (B : List Value) (m : Nat) : Nat → List Value
  | 0 => B
  | k + 1 => (fillB B m k).set k (.int .u8 (m : Int))
theorem fillB_len (B : List Value) (m k : Nat) : (fillB B m k).length = B.length := by
  induction k with
  | zero => rfl
  | succ k ih => simp only [fillB, List.length_set, ih]
theorem fillB_get (B : List Value) (m k i : Nat) (hi : i < B.length) (hk : i < k) : (fillB B m k)[i]? = some (.int .u8 (m : Int)) := by
  induction k with
  | zero => omega
  | succ k ih =>
    simp only [fillB]
    rw [List.getElem?_set]
    by_cases c : k = i
    · rw [if_pos c, if_pos (by rw [fillB_len]; omega)]
    · rw [if_neg c, ih (by omega)]
theorem fillB_all (B : List Value) (m : Nat) : fillB B m B.length = List.replicate B.length (.int .u8 (m : Int)) := by
  apply List.ext_getElem?
  intro i
  by_cases c : i < B.length
  · rw [fillB_get B m _ i c c, List.getElem?_replicate, if_pos c]
  · rw [List.getElem?_eq_none (by rw [fillB_len]; omega), List.getElem?_eq_none (by simp; omega)]
def fillR (xs : List Value) (m : Nat) : Nat → List Value
  | 0 => xs
  | k + 1 => ((fillR xs m k).set (k * 2) (.int .i64 (m : Int))).set (k * 2 + 1) (.int .i64 (-1))
theorem fillR_len (xs : List Value) (m k : Nat) : (fillR xs m k).length = xs.length := by
  induction k with
  | zero => rfl
  | succ k ih => simp only [fillR, List.length_set, ih]
theorem fillR_get (xs : List Value) (m k i : Nat) (hi : i * 2 + 1 < xs.length) (hk : i < k) : (fillR xs m k)[i * 2]? = some (.int .i64 (m : Int)) ∧ (fillR xs m k)[i * 2 + 1]? = some (.int .i64 (-1)) := by
  induction k with
  | zero => omega
  | succ k ih =>
    simp only [fillR]
    by_cases c : k = i
    · subst c
      refine ⟨?_, ?_⟩
      · rw [List.getElem?_set, if_neg (by omega), List.getElem?_set, if_pos rfl, if_pos (by rw [fillR_len]; omega)]
      · rw [List.getElem?_set, if_pos rfl, if_pos (by rw [List.length_set, fillR_len]; omega)]
    · rw [List.getElem?_set, if_neg (by omega), List.getElem?_set, if_neg (by omega), List.getElem?_set, if_neg (by omega), List.getElem?_set, if_neg (by omega)]
      exact ih (by omega)

theorem Tryz.infoOw : (Tryz.prog.info? 83).map (fun i => (i.zero, i.size, i.bytes)) = some (some (.agg #[.slice none 0 0, .slice none 0 0, .int .i64 0]), 3, 56) := by kernel_rfl

section
variable {n0 : Nat} {X Y : World} {ob : Nat} {vl : Value} {rest : List Value} {V : Nat → Prop} {es : List En}

/-- One entry more. -/
theorem OL.push (h : OL n0 X ob vl rest V es) (hn0 : n0 ≤ X.heap.size) (e : En) (V' : Nat → Prop) (hV : ∀ g, V g → V' g) (hE : EOk X V' e) (hV' : ∀ g, V' g → n0 ≤ g ∧ g < X.heap.size ∧ g ≠ ob ∧ vl.ownBlock ≠ some g) (hb : es.length + 1 ≤ 1000000000) :
    ∃ a' c' W', (Builtin.append_ #[35, 35] 35 #[vl, .slice (some ⟨X.heap.size, 0, none⟩) 1 1]).run Tryz.prog (X.alloc (.cells (ena e) 83)) = .ok (.slice a' (es.length + 1) c') W' ∧ OL n0 (W'.setCell ⟨ob, 0, none⟩ (.slice a' (es.length + 1) c')) ob (.slice a' (es.length + 1) c') rest V' (es ++ [e]) ∧ W'.frozen? ⟨ob, 0, none⟩ = false ∧ (∃ u, W'.cell? ⟨ob, 0, none⟩ = some u) ∧ Kp (Om ob vl) X (W'.setCell ⟨ob, 0, none⟩ (.slice a' (es.length + 1) c')) ∧ ((Value.slice a' (es.length + 1) c').ownBlock = vl.ownBlock ∨ ∀ g, (Value.slice a' (es.length + 1) c').ownBlock = some g → X.heap.size ≤ g) := by
  obtain ⟨i, hi, hz, hs, hby⟩ := info_parts Tryz.infoOw
  have gA := grown_alloc X (.cells (ena e) 83)
  have hrow : (X.alloc (.cells (ena e) 83)).ownsRow n0 83 3 vl es.length (es.flatMap En.cs) := own_kept h.row fun g eg => gA.block g (h.row.lt g eg).2 (by simp)
  have hnews : ∀ j u, e.cs[j]? = some u → (X.alloc (.cells (ena e) 83)).cell? ((⟨X.heap.size, 0, none⟩ : Addr).add j) = some u := fun j u hj => by
    have hj3 : j < 3 := (List.getElem?_eq_some_iff.1 hj).1
    have hb2 := Blk.new X (ena e) 83
    have := hb2.cell j u (by
      match j, hj with
      | 0, hj => exact hj
      | 1, hj => exact hj
      | 2, hj => exact hj)
    simpa only [Addr.add_lit, Nat.zero_add] using this
  have h1 : ∀ u ∈ e.cs, u.oneCell' = true := by simp [En.cs, Value.oneCell']
  obtain ⟨v', W', hr, ho, hgr, hnil⟩ := run_append_own (P := Tryz.prog) (X.alloc (.cells (ena e) 83)) n0 35 35 83 i _ 3 56 Tryz.underlying35 hi hz hs hby rfl (by decide) vl es.length (es.flatMap En.cs) hrow ⟨X.heap.size, 0, none⟩ 1 1 e.cs rfl hnews h1 (by unfold maxLen; omega) (by omega) (Nat.le_trans hn0 gA.size)
  have e1 : es.flatMap En.cs ++ e.cs = (es ++ [e]).flatMap En.cs := by simp
  have e2 : (es ++ [e]).length = es.length + 1 := by simp
  rw [e1] at ho
  obtain ⟨a', c', rfl⟩ : ∃ a' c', v' = .slice a' (es.length + 1) c' := by
    rcases ho.2 with ⟨-, e⟩ | ⟨g', c', cur, e1, -⟩
    · omega
    · exact ⟨_, _, e1⟩
  have hbA := h.blk.grown gA
  have hneO : vl.ownBlock ≠ some ob := fun q => by
    rcases hrow.2 with ⟨rfl, -⟩ | ⟨g', c, cur, rfl, -, q2, -⟩
    · cases q
    · cases q
      have q3 := hbA
      unfold Blk at q3
      rw [q2] at q3
      injection q3 with q3
      injection q3 with _ q3
      exact absurd q3 (by decide)
  have hbW : Blk W' ob (vl :: rest).toArray 38 := (hgr.block ob hbA.lt (fun q => hneO q.symm)).trans hbA
  have hown : (Value.slice a' (es.length + 1) c').ownBlock = vl.ownBlock ∨ ∀ g, (Value.slice a' (es.length + 1) c').ownBlock = some g → X.heap.size ≤ g := by
    rcases h.row.2 with ⟨rfl, hl⟩ | ⟨g', cap, cur, rfl, hbg, hgg, hnc, hcm, hcs, htake⟩
    · have := run_append_nil (P := Tryz.prog) (X.alloc (.cells (ena e) 83)) 35 35 83 i _ Tryz.underlying35 hi hz ⟨X.heap.size, 0, none⟩ 1 1 e.cs (by rw [hs]; rfl) hnews (by omega) (by omega) (by rw [hby]; omega)
      rw [this] at hr
      injection hr with e3 e4
      rw [← e3]
      right
      intro g q
      have : some (X.alloc (.cells (ena e) 83)).heap.size = some g := q
      injection this with this
      rw [← this, alloc_size]; omega
    · by_cases hroom : es.length + 1 ≤ cap
      · have hgg2 := gA.block g' (h.row.lt g' rfl).2 (by simp)
        have := run_append_room (P := Tryz.prog) (X.alloc (.cells (ena e) 83)) 35 35 83 i Tryz.underlying35 hi g' es.length cap cur (hgg2.trans hgg) ⟨X.heap.size, 0, none⟩ 1 1 e.cs (by rw [hs]; rfl) hnews h1 hroom (by rw [hs, hcs]; show es.length * 3 + 3 ≤ cap * 3; omega)
        rw [this] at hr
        injection hr with e3 e4
        rw [← e3]
        exact .inl rfl
      · have := run_append_grow (P := Tryz.prog) (X.alloc (.cells (ena e) 83)) 35 35 83 i _ Tryz.underlying35 hi hz ⟨g', 0, none⟩ es.length cap (es.flatMap En.cs) (by rw [hs]; exact hrow.1) (hrow.cells (g := g') rfl) ⟨X.heap.size, 0, none⟩ 1 1 e.cs (by rw [hs]; rfl) hnews (by omega) (by omega) (growslice_fits (by omega) (by rw [hby]; omega))
        rw [this] at hr
        injection hr with e3 e4
        rw [← e3]
        right
        intro g q
        have : some (X.alloc (.cells (ena e) 83)).heap.size = some g := q
        injection this with this
        rw [← this, alloc_size]; omega
  have hkW : Kp (Om ob vl) X W' := kp_own (Kp.grown gA _) hgr (fun g q => .inl (.inr q))
  have hrowne : (Value.slice a' (es.length + 1) c').ownBlock ≠ some ob := fun q => by
    rcases hown with hown | hown
    · exact hneO (hown ▸ q)
    · have := hown ob q; have := h.blk.lt; omega
  have hk2 : ∀ g, V' g → (W'.setCell ⟨ob, 0, none⟩ (.slice a' (es.length + 1) c')).heap[g]? = X.heap[g]? := fun g hv => by
    have h4 := hV' g hv
    rw [set_heap _ _ _ _ _ h4.2.2.1]
    exact hkW.block g h4.2.1 (fun q => by
      rcases q with q | q
      · exact h4.2.2.1 q
      · exact h4.2.2.2 q)
  refine ⟨a', c', W', hr, ⟨?_, ?_, fun x hx => ?_, h.nb, fun g hv => ?_⟩, hbW.thaw 0, ⟨_, hbW.cell 0 _ rfl⟩, hkW.set ob 0 _ (fun _ => .inl rfl), hown⟩
  · have := hbW.setC 0 (.slice a' (es.length + 1) c')
    exact this
  · rw [e2]
    exact own_kept ho fun g q => set_heap _ _ _ _ _ (fun z => hrowne (z ▸ q))
  · rcases List.mem_append.1 hx with hx | hx
    · exact ((h.all x hx).mono hV).kept fun g hv _ => hk2 g hv
    · simp only [List.mem_singleton] at hx
      subst hx
      exact hE.kept fun g hv _ => hk2 g hv
  · have h4 := hV' g hv
    refine ⟨h4.1, by rw [set_size]; have := hkW.size; omega, h4.2.2.1, fun q => ?_⟩
    rcases hown with hown | hown
    · exact h4.2.2.2 (hown ▸ q)
    · have := hown g q; omega
end

/-- While lists are written full. -/
structure MK (n0 : Nat) (X : World) (ob : Nat) (vl : Value) (rest : List Value) (V : Nat → Prop) (es : List En) (vb vr : Value) (n : Nat) (Bs xs : List Value) (Z : World) : Prop where
  ol : OL n0 Z ob vl rest V es
  bb : RowV n0 5 Z vb Bs
  rr : Z.ownsRow n0 69 2 vr n xs
  kp : Kp (fun g => Om ob vl g ∨ vb.ownBlock = some g ∨ vr.ownBlock = some g) X Z
  nb : ∀ g, vb.ownBlock = some g → ¬ V g
  nr : ∀ g, vr.ownBlock = some g → ¬ V g

/-- The block of a row. -/
theorem own_blk {w : World} {b : Nat} {e : TypeId} {sz n : Nat} {v : Value} {xs : List Value} (h : w.ownsRow b e sz v n xs) {g : Nat} (hg : v.ownBlock = some g) : ∃ cur, Blk w g cur e := by
  rcases h.2 with ⟨rfl, -⟩ | ⟨g', c, cur, rfl, q1, q2, q3⟩
  · cases hg
  · cases hg; exact ⟨cur, q2⟩
theorem own_ne {w : World} {b b' : Nat} {e e' : TypeId} {sz n sz' n' : Nat} {v v' : Value} {xs xs' : List Value} (h : w.ownsRow b e sz v n xs) (h' : w.ownsRow b' e' sz' v' n' xs') (ht : e ≠ e') {g : Nat} (hg : v.ownBlock = some g) : v'.ownBlock ≠ some g := fun q => by
  obtain ⟨c1, b1⟩ := own_blk h hg
  obtain ⟨c2, b2⟩ := own_blk h' q
  have := (show w.heap[g]? = _ from b1).symm.trans (show w.heap[g]? = _ from b2)
  simp at this
  exact ht this.2
theorem own_ne_blk {w : World} {b : Nat} {e t : TypeId} {sz n : Nat} {v : Value} {xs : List Value} {cs : Array Value} {k : Nat} (h : w.ownsRow b e sz v n xs) (hb : Blk w k cs t) (ht : e ≠ t) : v.ownBlock ≠ some k := fun q => by
  obtain ⟨c1, b1⟩ := own_blk h q
  have := (show w.heap[k]? = _ from b1).symm.trans (show w.heap[k]? = _ from hb)
  simp at this
  exact ht this.2

section
variable {n0 : Nat} {X Z : World} {ob : Nat} {vl : Value} {rest : List Value} {V : Nat → Prop} {es : List En} {vb vr : Value} {n : Nat} {Bs xs : List Value}

theorem MK.setB {gb bn bc : Nat} (h : MK n0 X ob vl rest V es (.slice (some ⟨gb, 0, none⟩) bn bc) vr n Bs xs Z) (j : Nat) (hj : j < Bs.length) (u : Value) : MK n0 X ob vl rest V es (.slice (some ⟨gb, 0, none⟩) bn bc) vr n (Bs.set j u) xs (Z.setCell ⟨gb, j, none⟩ u) := by
  have hg : (Value.slice (some ⟨gb, 0, none⟩) bn bc).ownBlock = some gb := rfl
  refine ⟨h.ol.kept (by rw [set_size]; exact Nat.le_refl _) fun g q _ => set_heap _ _ _ _ _ (fun z => ?_), h.bb.put j u hj, own_kept h.rr fun g e => set_heap _ _ _ _ _ (fun z => own_ne h.bb h.rr (by decide) hg (z ▸ e)), h.kp.set gb j u (fun _ => .inr (.inl rfl)), h.nb, h.nr⟩
  subst z
  rcases q with (q | q) | q
  · subst q
    exact own_ne_blk h.bb h.ol.blk (by decide) hg
  · exact own_ne h.bb h.ol.row (by decide) hg q
  · exact h.nb g rfl q
theorem MK.setR {gr rc : Nat} (h : MK n0 X ob vl rest V es vb (.slice (some ⟨gr, 0, none⟩) n rc) n Bs xs Z) (j : Nat) (u : Value) : MK n0 X ob vl rest V es vb (.slice (some ⟨gr, 0, none⟩) n rc) n Bs (xs.set j u) (Z.setCell ⟨gr, j, none⟩ u) := by
  have hg : (Value.slice (some ⟨gr, 0, none⟩) n rc).ownBlock = some gr := rfl
  refine ⟨h.ol.kept (by rw [set_size]; exact Nat.le_refl _) fun g q _ => set_heap _ _ _ _ _ (fun z => ?_), h.bb.kept fun g e => set_heap _ _ _ _ _ (fun z => own_ne h.rr h.bb (by decide) hg (z ▸ e)), (World.ownsRow.stored h.rr j u).1, h.kp.set gr j u (fun _ => .inr (.inr rfl)), h.nb, h.nr⟩
  subst z
  rcases q with (q | q) | q
  · subst q
    exact own_ne_blk h.rr h.ol.blk (by decide) hg
  · exact own_ne h.rr h.ol.row (by decide) hg q
  · exact h.nr g rfl q

theorem own_shape {w : World} {b : Nat} {e : TypeId} {sz n : Nat} {v : Value} {xs : List Value} (h : w.ownsRow b e sz v n xs) : ∃ a c, v = .slice a n c ∧ n ≤ c ∧ c ≤ 9223372036854775807 ∧ (n = 0 ∨ ∃ g, a = some ⟨g, 0, none⟩) := by
  rcases h.2 with ⟨e1, e2⟩ | ⟨g, c, cur, e1, q1, q2, q3, q4, q5⟩
  · subst e2
    exact ⟨none, 0, e1, Nat.le_refl _, Nat.zero_le _, .inl rfl⟩
  · exact ⟨_, c, e1, q3, by unfold maxLen at q4; omega, .inr ⟨g, rfl⟩⟩

end

theorem app_moved {P : Program} (w : World) (base : Nat) (t ty e : TypeId) (i : TypeInfo) (z : Value) (size bytes : Nat) (ht : P.underlying t = some (.slice e)) (hi : P.info? e = some i) (hz : i.zero = some z)
    (hsize : i.size = size) (hby : i.bytes = bytes) (hzs : z.cells.size = size) (hs0 : 0 < size)
    (v : Value) (n : Nat) (xs : List Value) (hown : w.ownsRow base e size v n xs)
    (a : Addr) (m c : Nat) (news : List Value) (hl : news.length = m * size) (hnews : ∀ j u, news[j]? = some u → w.cell? (a.add j) = some u) (h1 : ∀ u ∈ news, u.oneCell' = true)
    (hm : 0 < m) (h63 : n + m ≤ maxLen) (hbytes : (n + m) * bytes ≤ 140737488355328) (hbase : base ≤ w.heap.size) :
    ∃ a' c' w', (Builtin.append_ #[t, t] ty #[v, .slice (some a) m c]).run P w = .ok (.slice a' (n + m) c') w' ∧ w'.ownsRow base e size (.slice a' (n + m) c') (n + m) (xs ++ news) ∧ Moved w w' v (.slice a' (n + m) c') := by
  obtain ⟨v', w', hr, ho, hg, hnil⟩ := run_append_own (P := P) w base t ty e i z size bytes ht hi hz hsize hby hzs hs0 v n xs hown a m c news hl hnews h1 h63 hbytes hbase
  obtain ⟨a', c', rfl⟩ : ∃ a' c', v' = .slice a' (n + m) c' := by
    rcases ho.2 with ⟨-, e⟩ | ⟨g', c', cur, e1, -⟩
    · omega
    · exact ⟨_, _, e1⟩
  refine ⟨a', c', w', hr, ho, ?_⟩
  have h63' : n + m ≤ 9223372036854775807 := by simp only [maxLen] at h63; omega
  rcases hown.2 with ⟨rfl, rfl⟩ | ⟨g, cap, cur, rfl, hbg, hgg, hnc, hcm, hcs, htake⟩
  · have := run_append_nil (P := P) w t ty e i z ht hi hz a m c news (by rw [hsize]; exact hl) hnews hm (by omega) (by rw [hby]; simp only [Nat.zero_add] at hbytes; omega)
    rw [this] at hr
    injection hr with e1 e2
    rw [← e1, ← e2]
    exact .inr ⟨rfl, grown_drew_alloc w _⟩
  · by_cases hroom : n + m ≤ cap
    · have := run_append_room (P := P) w t ty e i ht hi g n cap cur hgg a m c news (by rw [hsize]; exact hl) hnews h1 hroom (by rw [hsize, hcs, hl, ← Nat.add_mul]; exact Nat.mul_le_mul_right _ hroom)
      rw [this] at hr
      injection hr with e1 e2
      rw [← e1]
      exact .inl ⟨rfl, hg⟩
    · have := run_append_grow (P := P) w t ty e i z ht hi hz ⟨g, 0, none⟩ n cap xs (by rw [hsize]; exact hown.1) (hown.cells (g := g) rfl) a m c news (by rw [hsize]; exact hl) hnews (by omega) (by omega) (growslice_fits (by omega) (by rw [hby]; exact hbytes))
      rw [this] at hr
      injection hr with e1 e2
      rw [← e1, ← e2]
      exact .inr ⟨rfl, grown_drew_alloc w _⟩

abbrev mB (m n : Nat) : List Value := List.replicate n (.int .u8 (m : Int))
abbrev mR (m n : Nat) : List Value := cl (List.replicate n ((m : Int), (-1 : Int)))
theorem mR_succ (m n : Nat) : mR m n ++ [.int .i64 (m : Int), .int .i64 (-1)] = mR m (n + 1) := by
  unfold mR
  rw [List.replicate_succ', cl_append]
  rfl
theorem mR_get (m : Nat) : ∀ (n i : Nat), i < n → (mR m n)[i * 2]? = some (.int .i64 (m : Int)) ∧ (mR m n)[i * 2 + 1]? = some (.int .i64 (-1))
  | 0, i, h => by omega
  | n + 1, 0, h => ⟨rfl, rfl⟩
  | n + 1, i + 1, h => by
    have := mR_get m n i (by omega)
    show (Value.int .i64 (m : Int) :: Value.int .i64 (-1) :: mR m n)[(i + 1) * 2]? = _ ∧ (Value.int .i64 (m : Int) :: Value.int .i64 (-1) :: mR m n)[(i + 1) * 2 + 1]? = _
    rw [show (i + 1) * 2 = i * 2 + 1 + 1 by omega, show i * 2 + 1 + 1 + 1 = (i * 2 + 1) + 1 + 1 by omega]
    exact this
theorem fillR_all (xs : List Value) (m n : Nat) (h : xs.length = n * 2) : fillR xs m n = mR m n := by
  have hl : (mR m n).length = n * 2 := by unfold mR; rw [cl_length]; simp
  apply List.ext_getElem?
  intro i
  by_cases c : i < n * 2
  · obtain ⟨j, hj⟩ : ∃ j, i = j * 2 ∨ i = j * 2 + 1 := ⟨i / 2, by omega⟩
    have h1 := fillR_get xs m n j (by omega) (by omega)
    have h2 := mR_get m n j (by omega)
    rcases hj with rfl | rfl
    · rw [h1.1, h2.1]
    · rw [h1.2, h2.2]
  · rw [List.getElem?_eq_none (by rw [fillR_len]; omega), List.getElem?_eq_none (by omega)]

section
variable {n0 : Nat} {A W' : World} {V : Nat → Prop} {e : En} {v : Value} {a' : Option Addr} {k c' m : Nat}

/-- Bytes are grown in place or anew: an entry still reads as it did. -/
theorem EOk.appB (he : EOk A V e) (hr : A.ownsRow n0 5 1 v k (mB m k)) (mv : Moved A W' v (.slice a' (k + 1) c')) (ho : W'.ownsRow n0 5 1 (.slice a' (k + 1) c') (k + 1) (mB m (k + 1))) (uq : ∀ g, v.ownBlock = some g → e.ba = some ⟨g, 0, none⟩ → 0 < e.bn → e.m = m ∧ e.bn ≤ k) : EOk W' V e := by
  rcases mv with ⟨eo, gg⟩ | ⟨eo, gg, -⟩
  · have keep : ∀ g cur t, Blk A g cur t → v.ownBlock ≠ some g → W'.heap[g]? = A.heap[g]? := fun g cur t hb hn => gg.block g hb.lt (fun q => hn q.symm)
    refine ⟨he.bc, he.rc, he.m, ?_, ?_⟩
    · rcases he.b with hz | ⟨g, e1, hv, ⟨cur, hb⟩, hc⟩
      · exact .inl hz
      · by_cases hz : e.bn = 0
        · exact .inl hz
        right
        by_cases q : v.ownBlock = some g
        · obtain ⟨u1, u2⟩ := uq g q e1 (by omega)
          have hag : a' = some ⟨g, 0, none⟩ := by
            have q2 : (Value.slice a' (k + 1) c').ownBlock = some g := eo.trans q
            rcases ho.2 with ⟨z1, -⟩ | ⟨g', cc, cur', z1, -⟩
            · cases z1
            · injection z1 with z1
              rw [z1] at q2 ⊢
              have : some g' = some g := q2
              injection this with this
              rw [this]
          subst hag
          refine ⟨g, e1, hv, own_blk ho rfl, fun i hi => ?_⟩
          rw [World.ownsRow.cellAt ho i (by omega), List.getElem?_replicate, if_pos (by omega), u1]
        · refine ⟨g, e1, hv, ⟨cur, (keep g _ _ hb q).trans hb⟩, fun i hi => ?_⟩
          rw [World.cell?_of_block (w := A) (w' := W') (keep g _ _ hb q)]
          exact hc i hi
    · rcases he.r with hz | ⟨g, e1, hv, ⟨cur, hb⟩, hc⟩
      · exact .inl hz
      · right
        have q : v.ownBlock ≠ some g := own_ne_blk hr hb (by decide)
        refine ⟨g, e1, hv, ⟨cur, (keep g _ _ hb q).trans hb⟩, fun i hi => ?_⟩
        rw [World.cell?_of_block (w := A) (w' := W') (keep g _ _ hb q), World.cell?_of_block (w := A) (w' := W') (keep g _ _ hb q)]
        exact hc i hi
  · exact he.kept fun g _ hl => gg.block g hl (by simp)
theorem EOk.appR (he : EOk A V e) (hr : A.ownsRow n0 69 2 v k (mR m k)) (mv : Moved A W' v (.slice a' (k + 1) c')) (ho : W'.ownsRow n0 69 2 (.slice a' (k + 1) c') (k + 1) (mR m (k + 1))) (uq : ∀ g, v.ownBlock = some g → e.ra = some ⟨g, 0, none⟩ → 0 < e.rn → e.m = m ∧ e.rn ≤ k) : EOk W' V e := by
  rcases mv with ⟨eo, gg⟩ | ⟨eo, gg, -⟩
  · have keep : ∀ g cur t, Blk A g cur t → v.ownBlock ≠ some g → W'.heap[g]? = A.heap[g]? := fun g cur t hb hn => gg.block g hb.lt (fun q => hn q.symm)
    refine ⟨he.bc, he.rc, he.m, ?_, ?_⟩
    · rcases he.b with hz | ⟨g, e1, hv, ⟨cur, hb⟩, hc⟩
      · exact .inl hz
      · right
        have q : v.ownBlock ≠ some g := own_ne_blk hr hb (by decide)
        refine ⟨g, e1, hv, ⟨cur, (keep g _ _ hb q).trans hb⟩, fun i hi => ?_⟩
        rw [World.cell?_of_block (w := A) (w' := W') (keep g _ _ hb q)]
        exact hc i hi
    · rcases he.r with hz | ⟨g, e1, hv, ⟨cur, hb⟩, hc⟩
      · exact .inl hz
      · by_cases hz : e.rn = 0
        · exact .inl hz
        right
        by_cases q : v.ownBlock = some g
        · obtain ⟨u1, u2⟩ := uq g q e1 (by omega)
          have hag : a' = some ⟨g, 0, none⟩ := by
            have q2 : (Value.slice a' (k + 1) c').ownBlock = some g := eo.trans q
            rcases ho.2 with ⟨z1, -⟩ | ⟨g', cc, cur', z1, -⟩
            · cases z1
            · injection z1 with z1
              rw [z1] at q2 ⊢
              have : some g' = some g := q2
              injection this with this
              rw [this]
          subst hag
          refine ⟨g, e1, hv, own_blk ho rfl, fun i hi => ?_⟩
          have hg := mR_get m (k + 1) i (by omega)
          rw [World.ownsRow.cellAt ho (i * 2) (by omega), World.ownsRow.cellAt ho (i * 2 + 1) (by omega), u1]
          exact hg
        · refine ⟨g, e1, hv, ⟨cur, (keep g _ _ hb q).trans hb⟩, fun i hi => ?_⟩
          rw [World.cell?_of_block (w := A) (w' := W') (keep g _ _ hb q), World.cell?_of_block (w := A) (w' := W') (keep g _ _ hb q)]
          exact hc i hi
  · exact he.kept fun g _ hl => gg.block g hl (by simp)
end
end Go.Proofs.YthihabjegpacaaaGreat

namespace Go.Proofs.YthihabjegpacaaaGreat
open Go.RowKit
set_option linter.unusedVariables false
set_option maxHeartbeats 1000000
set_option maxRecDepth 100000

theorem Moved.grows {A W : World} {v v' : Value} (h : Moved A W v v') : A.grownBy W v.ownBlock := by
  rcases h with ⟨-, g⟩ | ⟨-, g, -⟩
  · exact g
  · exact ⟨g.os, g.tape, g.output, g.size, fun k hk _ => g.block k hk (by simp)⟩
theorem Moved.keeps {A W : World} {v v' : Value} (h : Moved A W v v') {g : Nat} (hl : g < A.heap.size) (hn : v.ownBlock ≠ some g) : W.heap[g]? = A.heap[g]? := h.grows.block g hl (fun q => hn q.symm)

theorem Blk.neT15 {w : World} {g g' : Nat} {cs cs' : Array Value} {t t' : TypeId} (h : Blk w g cs t) (h' : Blk w g' cs' t') (ht : t ≠ t') : g ≠ g' := by
  rintro rfl
  have := (show w.heap[g]? = _ from h).symm.trans (show w.heap[g]? = _ from h')
  simp at this
  exact ht this.2
/-- While lists are grown. -/
structure GL (n0 : Nat) (X : World) (ob : Nat) (vl : Value) (rest : List Value) (V : Nat → Prop) (es : List En) (m : Nat) (D : Nat → Prop) (vb vr : Value) (bn rn : Nat) (Z : World) : Prop where
  ol : OL n0 Z ob vl rest V es
  bb : Z.ownsRow n0 5 1 vb bn (mB m bn)
  rr : Z.ownsRow n0 69 2 vr rn (mR m rn)
  kp : Kp D X Z
  db : ∀ g, vb.ownBlock = some g → D g ∨ X.heap.size ≤ g
  dr : ∀ g, vr.ownBlock = some g → D g ∨ X.heap.size ≤ g
  ub : ∀ e ∈ es, ∀ g, vb.ownBlock = some g → e.ba = some ⟨g, 0, none⟩ → 0 < e.bn → e.m = m ∧ e.bn ≤ bn
  ur : ∀ e ∈ es, ∀ g, vr.ownBlock = some g → e.ra = some ⟨g, 0, none⟩ → 0 < e.rn → e.m = m ∧ e.rn ≤ rn
  n0 : n0 ≤ X.heap.size

section
variable {n0 : Nat} {X Z : World} {ob : Nat} {vl : Value} {rest : List Value} {V : Nat → Prop} {es : List En} {m : Nat} {D : Nat → Prop} {vb vr : Value} {bn rn : Nat}
theorem GL.appB (h : GL n0 X ob vl rest V es m D vb vr bn rn Z) (hb : bn + 1 ≤ 1000000000) :
    ∃ a' c' W', (Builtin.append_ #[36, 36] 36 #[vb, .slice (some ⟨Z.heap.size, 0, none⟩) 1 1]).run Tryz.prog (Z.alloc (.cells #[.int .u8 (m : Int)] 5)) = .ok (.slice a' (bn + 1) c') W' ∧ GL n0 X ob vl rest V es m D (.slice a' (bn + 1) c') vr (bn + 1) rn W' := by
  obtain ⟨i, hi, hz, hs, hby⟩ := info_parts Tryz.infoB
  have gA := grown_alloc Z (.cells #[.int .u8 (m : Int)] 5)
  have kA : ∀ {g : Nat}, g < Z.heap.size → (Z.alloc (.cells #[.int .u8 (m : Int)] 5)).heap[g]? = Z.heap[g]? := fun hl => gA.block _ hl (by simp)
  have hbA : (Z.alloc (.cells #[.int .u8 (m : Int)] 5)).ownsRow n0 5 1 vb bn (mB m bn) := own_kept h.bb fun g q => kA (h.bb.lt g q).2
  have hrA : (Z.alloc (.cells #[.int .u8 (m : Int)] 5)).ownsRow n0 69 2 vr rn (mR m rn) := own_kept h.rr fun g q => kA (h.rr.lt g q).2
  have hoA := h.ol.grown gA
  have hsz := h.kp.size
  obtain ⟨a', c', W', hr, ho, mv⟩ := app_moved (P := Tryz.prog) (Z.alloc (.cells #[.int .u8 (m : Int)] 5)) n0 36 36 5 i _ 1 1 Tryz.underlying36 hi hz hs hby rfl (by decide) vb bn (mB m bn) hbA ⟨Z.heap.size, 0, none⟩ 1 1 [.int .u8 (m : Int)] rfl (fun j u hj => by
    match j, hj with
    | 0, hj =>
      cases hj
      exact (Blk.new Z #[.int .u8 (m : Int)] 5).cell 0 _ rfl) (by simp [Value.oneCell']) (by omega) (by unfold maxLen; omega) (by omega) (Nat.le_trans h.n0 (Nat.le_trans hsz gA.size))
  have em : mB m bn ++ [.int .u8 (m : Int)] = mB m (bn + 1) := by unfold mB; rw [List.replicate_succ']
  rw [em] at ho
  have nb : ∀ {g : Nat} {cur : Array Value} {t : TypeId}, Blk (Z.alloc (.cells #[.int .u8 (m : Int)] 5)) g cur t → 5 ≠ t → Blk W' g cur t := fun hB ht => (mv.keeps hB.lt (own_ne_blk hbA hB ht)).trans hB
  have hbW := nb hoA.blk (by decide)
  have sW := mv.grows.size
  have hoW : OL n0 W' ob vl rest V es := ⟨hbW, own_kept hoA.row fun g q => mv.keeps (hoA.row.lt g q).2 (own_ne hoA.row hbA (by decide) q), fun e he => (hoA.all e he).appB hbA mv ho (h.ub e he), hoA.nb, fun g q => by have := hoA.nV g q; exact ⟨this.1, by omega, this.2.2⟩⟩
  refine ⟨a', c', W', hr, ⟨hoW, ho, own_kept hrA fun g q => mv.keeps (hrA.lt g q).2 (own_ne hrA hbA (by decide) q), kp_own (h.kp.nothing gA) mv.grows h.db, fun g q => ?_, h.dr, fun e he g q1 q2 q3 => ?_, h.ur, h.n0⟩⟩
  · rcases mv with ⟨eo, -⟩ | ⟨eo, -⟩
    · exact h.db g (eo ▸ q)
    · rw [q] at eo
      injection eo with eo
      right
      rw [eo, alloc_size]; omega
  · rcases mv with ⟨eo, -⟩ | ⟨eo, -⟩
    · have := h.ub e he g (eo ▸ q1) q2 q3
      exact ⟨this.1, by omega⟩
    · rw [q1] at eo
      injection eo with eo
      rcases (h.ol.all e he).b with hz | ⟨g2, e1, -, ⟨cur, hB⟩, -⟩
      · omega
      · rw [q2] at e1
        injection e1 with e1
        injection e1 with e1
        have := hB.lt
        rw [alloc_size] at eo
        omega
theorem GL.appR (h : GL n0 X ob vl rest V es m D vb vr bn rn Z) (hb : rn + 1 ≤ 1000000000) :
    ∃ a' c' W', (Builtin.append_ #[32, 32] 32 #[vr, .slice (some ⟨Z.heap.size, 0, none⟩) 1 1]).run Tryz.prog (Z.alloc (.cells #[.int .i64 (m : Int), .int .i64 (-1)] 69)) = .ok (.slice a' (rn + 1) c') W' ∧ GL n0 X ob vl rest V es m D vb (.slice a' (rn + 1) c') bn (rn + 1) W' := by
  obtain ⟨i, hi, hz, hs, hby⟩ := info_parts Tryz.infoS
  have gA := grown_alloc Z (.cells #[.int .i64 (m : Int), .int .i64 (-1)] 69)
  have kA : ∀ {g : Nat}, g < Z.heap.size → (Z.alloc (.cells #[.int .i64 (m : Int), .int .i64 (-1)] 69)).heap[g]? = Z.heap[g]? := fun hl => gA.block _ hl (by simp)
  have hbA : (Z.alloc (.cells #[.int .i64 (m : Int), .int .i64 (-1)] 69)).ownsRow n0 5 1 vb bn (mB m bn) := own_kept h.bb fun g q => kA (h.bb.lt g q).2
  have hrA : (Z.alloc (.cells #[.int .i64 (m : Int), .int .i64 (-1)] 69)).ownsRow n0 69 2 vr rn (mR m rn) := own_kept h.rr fun g q => kA (h.rr.lt g q).2
  have hoA := h.ol.grown gA
  have hsz := h.kp.size
  obtain ⟨a', c', W', hr, ho, mv⟩ := app_moved (P := Tryz.prog) (Z.alloc (.cells #[.int .i64 (m : Int), .int .i64 (-1)] 69)) n0 32 32 69 i _ 2 16 Tryz.underlying32 hi hz hs hby rfl (by decide) vr rn (mR m rn) hrA ⟨Z.heap.size, 0, none⟩ 1 1 [.int .i64 (m : Int), .int .i64 (-1)] rfl (fun j u hj => by
    have hB := Blk.new Z #[.int .i64 (m : Int), .int .i64 (-1)] 69
    have := hB.cell j u (by
      match j, hj with
      | 0, hj => exact hj
      | 1, hj => exact hj)
    simpa only [Addr.add_lit, Nat.zero_add] using this) (by simp [Value.oneCell']) (by omega) (by unfold maxLen; omega) (by omega) (Nat.le_trans h.n0 (Nat.le_trans hsz gA.size))
  rw [mR_succ] at ho
  have nb : ∀ {g : Nat} {cur : Array Value} {t : TypeId}, Blk (Z.alloc (.cells #[.int .i64 (m : Int), .int .i64 (-1)] 69)) g cur t → 69 ≠ t → Blk W' g cur t := fun hB ht => (mv.keeps hB.lt (own_ne_blk hrA hB ht)).trans hB
  have hbW := nb hoA.blk (by decide)
  have sW := mv.grows.size
  have hoW : OL n0 W' ob vl rest V es := ⟨hbW, own_kept hoA.row fun g q => mv.keeps (hoA.row.lt g q).2 (own_ne hoA.row hrA (by decide) q), fun e he => (hoA.all e he).appR hrA mv ho (h.ur e he), hoA.nb, fun g q => by have := hoA.nV g q; exact ⟨this.1, by omega, this.2.2⟩⟩
  refine ⟨a', c', W', hr, ⟨hoW, own_kept hbA fun g q => mv.keeps (hbA.lt g q).2 (own_ne hbA hrA (by decide) q), ho, kp_own (h.kp.nothing gA) mv.grows h.dr, h.db, fun g q => ?_, h.ub, fun e he g q1 q2 q3 => ?_, h.n0⟩⟩
  · rcases mv with ⟨eo, -⟩ | ⟨eo, -⟩
    · exact h.dr g (eo ▸ q)
    · rw [q] at eo
      injection eo with eo
      right
      rw [eo, alloc_size]; omega
  · rcases mv with ⟨eo, -⟩ | ⟨eo, -⟩
    · have := h.ur e he g (eo ▸ q1) q2 q3
      exact ⟨this.1, by omega⟩
    · rw [q1] at eo
      injection eo with eo
      rcases (h.ol.all e he).r with hz | ⟨g2, e1, -, ⟨cur, hB⟩, -⟩
      · omega
      · rw [q2] at e1
        injection e1 with e1
        injection e1 with e1
        have := hB.lt
        rw [alloc_size] at eo
        omega
end
end Go.Proofs.YthihabjegpacaaaGreat
