/- F2A, F2B, F2C, F2D, F2E, F2I, one text. -/
import Derived.Test.YtggjeamondampabF1P
import Derived.Test.YtggjeamondampabF1R
import Derived.Test.YtggjeamondampabF1M
import Derived.Laws.Rows
import Derived.Great.BuildSlice
import Derived.Test.YtggjeamondampabF1S
namespace Go.Proofs.Ytggjeamondampab
open Go.RowKit
set_option linter.unusedVariables false
set_option linter.unusedSimpArgs false
set_option maxRecDepth 100000
set_option maxHeartbeats 1000000

/-- Bytes that are read as these frames, one behind the other, each with the place behind it told by what is left. -/
inductive Decs : List Int → List Fr → Prop
  | nil : Decs [] []
  | cons {l l1 : List Int} {f : Fr} {fs : List Fr} : decF l = .inl (f, l1) → l1.length < l.length → l1 = l.drop (l.length - l1.length) → Decs l1 fs → Decs l (f :: fs)

def padF (n : Nat) : Fr := { Fr.zero with size := (n : Int) }
/-- So many bytes of padding, as frames. -/
def chunks (s : Nat) : List Fr := if s = 0 then [] else padF (min s 65535) :: chunks (s - min s 65535)
  termination_by s
  decreasing_by omega
theorem chunks_zero : chunks 0 = [] := by unfold chunks; rfl
theorem chunks_pos {s : Nat} (h : 0 < s) : chunks s = padF (min s 65535) :: chunks (s - min s 65535) := by
  rw [chunks, if_neg (by omega)]

def mergeF (s : Nat) : List Fr → List Fr
  | [] => chunks s
  | f :: L => if f.kind = 0 then mergeF (s + f.size.toNat) L else chunks s ++ f :: mergeF 0 L

theorem zrs_min (n m : Nat) (l : List Int) (hl : l.head? ≠ some 0) : zrs m (List.replicate n 0 ++ l) = min n m := by
  induction n generalizing m with
  | zero =>
    cases m with
    | zero => rfl
    | succ m =>
      cases l with
      | nil => rfl
      | cons x r => simp only [List.replicate_zero, List.nil_append, zrs]; rw [if_neg (by simpa using hl)]; omega
  | succ n ih =>
    cases m with
    | zero => simp [zrs]
    | succ m => simp only [List.replicate_succ, List.cons_append, zrs, if_true]; rw [ih m]; omega

theorem dec_pad (s : Nat) (l : List Int) (hs : 0 < s) (hl : l.head? ≠ some 0) : decF (List.replicate s 0 ++ l) = .inl (padF (min s 65535), List.replicate (s - min s 65535) 0 ++ l) := by
  obtain ⟨s, rfl⟩ := Nat.exists_eq_succ_of_ne_zero (by omega : s ≠ 0)
  simp only [List.replicate_succ, List.cons_append]
  have e1 : numF (0 :: (List.replicate s 0 ++ l)) = some (0, List.replicate s 0 ++ l) := by
    rw [numF_cons, if_neg (by simp [sz])]
    simp [sz, joinF]
  unfold decF
  rw [e1]
  simp only
  have e2 : shapeF 0 = some ({ Fr.zero with kind := 0 }, 14, 0, 0, 0) := rfl
  rw [e2]
  simp only
  rw [if_neg (by simp [sizeF]; omega)]
  have e3 : readPs (14, 0, 0, 0) { Fr.zero with kind := 0 } (List.replicate s 0 ++ l) = .inl ({ Fr.zero with kind := 0, size := (zrs 65534 (List.replicate s 0 ++ l) : Int) + 1 }, (List.replicate s 0 ++ l).drop (zrs 65534 (List.replicate s 0 ++ l))) := rfl
  rw [e3, zrs_min s 65534 l hl]
  have e4 : min (s + 1) 65535 = min s 65534 + 1 := by omega
  rw [e4]
  congr 1
  refine Prod.ext ?_ ?_
  · simp [padF, Fr.zero]
  · show (List.replicate s 0 ++ l).drop (min s 65534) = _
    rw [List.drop_append_of_le_length (by simp; omega), List.drop_replicate]
    congr 2
    omega

theorem decs_chunks : ∀ (s : Nat) (l : List Int) (fs : List Fr), l.head? ≠ some 0 → Decs l fs → Decs (List.replicate s 0 ++ l) (chunks s ++ fs) := by
  intro s
  induction s using Nat.strongRecOn with
  | _ s ih =>
    intro l fs hl hd
    by_cases h0 : s = 0
    · subst h0; rw [chunks_zero]; simpa using hd
    · rw [chunks_pos (by omega)]
      refine Decs.cons (dec_pad s l (by omega) hl) (by simp; omega) ?_ (ih (s - min s 65535) (by omega) l fs hl hd)
      have e : (List.replicate s 0 ++ l).length - (List.replicate (s - min s 65535) 0 ++ l).length = min s 65535 := by simp; omega
      rw [e, List.drop_append_of_le_length (by simp; omega), List.drop_replicate]

/-- What is written of a frame begins with its type. -/
theorem tell_head {f : Fr} {n rs : List Int} (h : tellF f = .inl (n, rs)) : ∃ r, encL n ++ rs = typeF f :: r ∧ 0 ≤ typeF f ∧ (typeF f = 0 → f.kind = 0) ∧ (f.kind = 0 → encL n ++ rs = List.replicate f.size.toNat 0 ∧ f = padF f.size.toNat ∧ 0 < f.size) := by
  unfold tellF at h
  by_cases hk : isKindF f.kind = true
  · obtain ⟨bare, l, hs⟩ := type_some hk
    rw [if_pos hk, hs] at h
    simp only at h
    by_cases hmay : mayF f bare l = true
    · rw [if_pos hmay] at h
      simp only [Sum.inl.injEq, Prod.mk.injEq] at h
      obtain ⟨rfl, rfl⟩ := h
      have tr := typeF_range hk
      have kd := kind_dom hk
      have t63 : typeF f ≤ 63 := by
        have b1 := one_bounds (decide (f.offset > 0)); have b2 := one_bounds (!f.tail); have b3 := one_bounds f.fin
        have b4 := one_bounds f.marks; have b5 := one_bounds f.uni; have b6 := one_bounds f.own
        unfold typeF; (repeat' split) <;> omega
      have t0 : typeF f = 0 → f.kind = 0 := by
        have b1 := one_bounds (decide (f.offset > 0)); have b2 := one_bounds (!f.tail); have b3 := one_bounds f.fin
        have b4 := one_bounds f.marks; have b5 := one_bounds f.uni; have b6 := one_bounds f.own
        unfold typeF; (repeat' split) <;> omega
      have eN : encN (typeF f) = [typeF f] := by
        have hsz : sizeF (typeF f) = 1 := by unfold sizeF; rw [if_pos (by omega)]
        unfold encN
        rw [hsz]
        simp [layF, dig, markF]
        omega
      refine ⟨encL (numsP f l.1 ++ numsP f l.2.1 ++ numsP f l.2.2.1 ++ numsP f l.2.2.2) ++ restF f l.1 f.data, ?_, tr.1, t0, fun k0 => ?_⟩
      · simp only [encL, List.flatMap_cons, eN]
        rfl
      · have ty0 : typeF f = 0 := by unfold typeF; rw [if_neg (by omega), if_neg (by omega), if_neg (by omega), if_neg (by omega), k0]
        have hs' := hs
        rw [ty0] at hs'
        cases hs'
        have gb := give_back (k := 0) rfl (by rw [k0]) hmay
        obtain ⟨⟨q1, -⟩, -⟩ := may_fields hmay
        have q1' : numb (f.size - 1) 65534 = true := q1
        simp only [numb, Bool.and_eq_true, decide_eq_true_eq] at q1'
        have ef : f = padF f.size.toNat := by
          have : givePs { Fr.zero with kind := 0 } f (14, 0, 0, 0) = { Fr.zero with kind := 0, size := f.size } := rfl
          rw [this] at gb
          rw [← gb]
          simp [padF, Fr.zero]
          omega
        refine ⟨?_, ef, by omega⟩
        simp only [encL, List.flatMap_cons, eN, ty0]
        have e1 : (numsP f 14 ++ numsP f 0 ++ numsP f 0 ++ numsP f 0) = [] := rfl
        rw [e1]
        have e2 : restF f 14 f.data = List.replicate (f.size - 1).toNat 0 := rfl
        rw [e2]
        have e3 : f.size.toNat = (f.size - 1).toNat + 1 := by omega
        rw [e3, List.replicate_succ]
        rfl
    · rw [if_neg hmay] at h; cases h
  · rw [if_neg hk] at h; cases h

/-- The bytes of frames, one behind the other; none if one may not be, or a tail is not the last. -/
def JoinOk : List Fr → List Int → Prop
  | [], b => b = []
  | f :: L, b => ∃ n rs r, tellF f = .inl (n, rs) ∧ (f.tail = true → L = []) ∧ b = encL n ++ rs ++ r ∧ JoinOk L r

theorem join_head : ∀ {L : List Fr} {b : List Int}, JoinOk L b → (∀ f, L.head? = some f → f.kind ≠ 0) → b.head? ≠ some 0 := by
  intro L b h hh
  cases L with
  | nil => simp only [JoinOk] at h; subst h; simp
  | cons f L =>
    obtain ⟨n, rs, r, ht, -, rfl, -⟩ := h
    obtain ⟨r', e, -, t0, -⟩ := tell_head ht
    rw [e]
    intro hc
    simp at hc
    exact hh f rfl (t0 hc)

theorem decs_join : ∀ (L : List Fr) (b : List Int) (s : Nat), JoinOk L b → (∀ f ∈ L, (f.runs.length : Int) ≤ MAXN) → Decs (List.replicate s 0 ++ b) (mergeF s L) := by
  intro L
  induction L with
  | nil =>
    intro b s h _
    simp only [JoinOk] at h
    subst h
    have := decs_chunks s [] [] (by simp) Decs.nil
    simpa [mergeF] using this
  | cons f L ih =>
    intro b s h hm
    obtain ⟨n, rs, r, ht, htl, rfl, hr⟩ := h
    obtain ⟨r', e, h0, t0, k0⟩ := tell_head ht
    simp only [mergeF]
    by_cases hk : f.kind = 0
    · rw [if_pos hk]
      obtain ⟨eE, -, -⟩ := k0 hk
      rw [eE, ← List.append_assoc, List.replicate_append_replicate]
      exact ih r _ hr (fun g hg => hm g (List.mem_cons_of_mem _ hg))
    · rw [if_neg hk]
      have hd0 : (encL n ++ rs ++ r).head? ≠ some 0 := by
        rw [e]; intro hc; simp at hc; exact hk (t0 hc)
      refine decs_chunks s _ _ hd0 ?_
      have := ih r 0 hr (fun g hg => hm g (List.mem_cons_of_mem _ hg))
      have bk := back_pure ht (hm f (by simp)) r (fun hh => by
        have := htl hh
        subst this
        simpa [JoinOk] using hr) (fun hh => absurd hh hk)
      refine Decs.cons bk ?_ ?_ (by simpa using this)
      · rw [e]; simp
        omega
      · have e5 : (encL n ++ rs ++ r).length - r.length = (encL n ++ rs).length := by simp; omega
        rw [e5, List.drop_left]
end Go.Proofs.Ytggjeamondampab

namespace Go.Proofs.Ytggjeamondampab
open Go.RowKit
set_option linter.unusedVariables false
set_option linter.unusedSimpArgs false
set_option maxRecDepth 100000
set_option maxHeartbeats 1000000

/-- A frame with its two lists. -/
structure FV where
  f : Fr
  d : Value
  r : Value
abbrev FV.C (x : FV) : Array Value := x.f.cs x.d x.r
def fv0 : FV := ⟨Fr.zero, nilS, nilS⟩
theorem FV.size (x : FV) : x.C.size = 17 := rfl
def clF (L : List FV) : List Value := L.flatMap fun x => x.C.toList
theorem clF_length (L : List FV) : (clF L).length = L.length * 17 := by
  induction L with
  | nil => rfl
  | cons x L ih =>
    have : clF (x :: L) = x.C.toList ++ clF L := by simp [clF]
    rw [this, List.length_append, ih]
    simp [FV.C]
    omega
theorem clF_get (L : List FV) (i j : Nat) (hi : i < L.length) (hj : j < 17) : (clF L)[i * 17 + j]? = (L.getD i fv0).C[j]? := by
  induction L generalizing i with
  | nil => simp at hi
  | cons x L ih =>
    have e : clF (x :: L) = x.C.toList ++ clF L := by simp [clF]
    have hx : x.C.toList.length = 17 := rfl
    rw [e]
    cases i with
    | zero =>
      rw [List.getElem?_append_left (by omega)]
      simp [List.getD]
    | succ i =>
      rw [List.getElem?_append_right (by omega), hx, show (i + 1) * 17 + j - 17 = i * 17 + j by omega, ih i (by simpa using hi)]
      simp [List.getD]

/-- A frame whose lists can be read, each in an old block, or in one of its own kind. -/
structure FrT (B : Nat) (w : World) (f : Fr) (d r : Value) : Prop where
  rd : FrR w f d r
  data : ∀ x n c, d = .slice (some x) n c → f.data ≠ [] → x.block < B ∨ ∃ cs, w.heap[x.block]? = some (.cells cs 5 (0, 0))
  runs : ∀ x n c, r = .slice (some x) n c → f.runs ≠ [] → x.block < B ∨ ∃ cs, w.heap[x.block]? = some (.cells cs 57 (0, 0))
/-- A row of frames grows: what hangs on frames stays. -/
theorem FrT.keep {B : Nat} {w W : World} {f : Fr} {d r : Value} {k : Option Nat} (h : FrT B w f d r) (g : w.grownBy W k) (hk : ∀ b, k = some b → B ≤ b ∧ ∃ cs, w.heap[b]? = some (.cells cs 26 (0, 0))) (hB : B ≤ w.heap.size) : FrT B W f d r := by
  have ne : ∀ (t : TypeId) (b : Nat), t ≠ 26 → (b < B ∨ ∃ cs, w.heap[b]? = some (.cells cs t (0, 0))) → some b ≠ k := fun t b ht hb e => by
    obtain ⟨h1, cs, h2⟩ := hk b e.symm
    rcases hb with hb | ⟨cs', hb⟩
    · omega
    · rw [h2] at hb; injection hb with hb; injection hb with _ hb; exact ht hb.symm
  have kp : ∀ (t : TypeId) (b : Nat), t ≠ 26 → (b < B ∨ ∃ cs, w.heap[b]? = some (.cells cs t (0, 0))) → (b < B ∨ ∃ cs, W.heap[b]? = some (.cells cs t (0, 0))) := fun t b ht hb => by
    have hn := ne t b ht hb
    rcases hb with hb' | ⟨cs, hb'⟩
    · exact .inl hb'
    · exact .inr ⟨cs, (g.block b (Array.getElem?_eq_some_iff.1 hb').1 hn).trans hb'⟩
  obtain ⟨a1, c1, rfl, r1, l1, l2⟩ := h.rd.data
  obtain ⟨a2, c2, rfl, r2, l3, l4⟩ := h.rd.runs
  refine ⟨⟨⟨a1, c1, rfl, ⟨r1.1, fun hne => ?_⟩, l1, l2⟩, ⟨a2, c2, rfl, fun hne => ?_, l3, l4⟩⟩, fun x n c e hne => ?_, fun x n c e hne => ?_⟩
  · obtain ⟨b, off, rfl, hc⟩ := r1.2 hne
    exact ⟨b, off, rfl, fun i hi => g.cell (hc i hi) (ne 5 b (by decide) (h.data _ _ _ rfl hne))⟩
  · obtain ⟨b, off, rfl, hc⟩ := r2 hne
    have hn := ne 57 b (by decide) (h.runs _ _ _ rfl hne)
    exact ⟨b, off, rfl, fun i hi => ⟨g.cell (hc i hi).1 hn, g.cell (hc i hi).2 hn⟩⟩
  · injection e with e; subst e
    exact kp 5 _ (by decide) (h.data _ _ _ rfl hne)
  · injection e with e; subst e
    exact kp 57 _ (by decide) (h.runs _ _ _ rfl hne)
theorem FrT.keepN {B : Nat} {w W : World} {f : Fr} {d r : Value} (h : FrT B w f d r) (g : w.grownBy W none) (hB : B ≤ w.heap.size) : FrT B W f d r := h.keep g (fun b e => by cases e) hB
theorem cell_lt' {w : World} {b o : Nat} {v : Value} (h : w.cell? ⟨b, o, none⟩ = some v) : b < w.heap.size := by
  by_cases c : b < w.heap.size
  · exact c
  · have e : w.heap[b]? = none := by simp; omega
    simp [World.cell?, e] at h
/-- What came in lies in old blocks. -/
theorem FrT.old {w : World} {f : Fr} {d r : Value} (h : FrR w f d r) : FrT w.heap.size w f d r := by
  obtain ⟨a1, c1, rfl, r1, l1, l2⟩ := h.data
  obtain ⟨a2, c2, rfl, r2, l3, l4⟩ := h.runs
  refine ⟨h, fun x n c e hne => .inl ?_, fun x n c e hne => .inl ?_⟩
  · obtain ⟨b, off, e', hc⟩ := r1.2 hne
    injection e with e; subst e; cases e'
    exact cell_lt' (hc 0 (List.length_pos_iff.2 hne))
  · obtain ⟨b, off, e', hc⟩ := r2 hne
    injection e with e; subst e; cases e'
    exact cell_lt' (hc 0 (List.length_pos_iff.2 hne)).1
theorem FrT.own {B base : Nat} {w : World} {f : Fr} {d r : Value} (h : OwnB base w d f.data) (hr : OwnR base w r f.runs) (hb : ∀ x ∈ f.data, IsB x) : FrT B w f d r := by
  refine ⟨FrR.own h hr hb, fun x n c e hne => .inr ?_, fun x n c e hne => .inr ?_⟩
  · rcases h.2 with ⟨e1, -⟩ | ⟨g, c', cur, e1, q1, q2, -⟩
    · rw [e1] at e; cases e
    · rw [e1] at e; cases e; exact ⟨cur, q2⟩
  · rcases hr.2 with ⟨e1, -⟩ | ⟨g, c', cur, e1, q1, q2, -⟩
    · rw [e1] at e; cases e
    · rw [e1] at e; cases e; exact ⟨cur, q2⟩
theorem FrT.zero (B : Nat) (w : World) (f : Fr) (h1 : f.data = []) (h2 : f.runs = []) : FrT B w f nilS nilS := ⟨⟨⟨none, 0, by rw [h1]; rfl, by rw [h1]; exact ⟨by simp, fun h => absurd rfl h⟩, by rw [h1]; exact Nat.le_refl _, by omega⟩, ⟨none, 0, by rw [h2]; rfl, by rw [h2]; exact fun h => absurd rfl h, by rw [h2]; exact Nat.le_refl _, by omega⟩⟩, (fun x n c e => by cases e), (fun x n c e => by cases e)⟩

/-- Frames that can be read. -/
structure RdF (w : World) (a : Option Addr) (L : List FV) : Prop where
  each : ∀ x ∈ L, FrR w x.f x.d x.r
  cells : L ≠ [] → ∃ b off, a = some ⟨b, off, none⟩ ∧ ∀ i, i < L.length → ∀ j v, (L.getD i fv0).C[j]? = some v → w.cell? ⟨b, off + i * 17 + j, none⟩ = some v
theorem RdF.grow {w W : World} {a : Option Addr} {L : List FV} (h : RdF w a L) (g : w.grownBy W none) : RdF W a L :=
  ⟨fun x hx => (h.each x hx).keep g, fun hne => by
    obtain ⟨b, off, e, hc⟩ := h.cells hne
    exact ⟨b, off, e, fun i hi j v hv => cell_grown (hc i hi j v hv) g⟩⟩
/-- Frames in a row that a call made. -/
structure OwnF (base : Nat) (w : World) (v : Value) (L : List FV) : Prop where
  row : w.ownsRow base 26 17 v L.length (clF L)
  each : ∀ x ∈ L, FrT base w x.f x.d x.r
theorem OwnF.nil (base : Nat) (w : World) : OwnF base w nilS [] := ⟨World.ownsRow_nil _ _ _ _, fun x hx => by cases hx⟩
theorem OwnF.shape {base : Nat} {w : World} {v : Value} {L : List FV} (h : OwnF base w v L) : ∃ a c, v = .slice a L.length c ∧ L.length ≤ c ∧ c ≤ 9223372036854775807 := by
  rcases h.row.2 with ⟨e1, e2⟩ | ⟨g, c', cur, e1, q1, q2, q3, q4, q5, q6⟩
  · exact ⟨none, 0, by rw [e1, e2], by omega, by omega⟩
  · unfold maxLen at q4; exact ⟨_, _, e1, q3, by omega⟩
theorem OwnF.keepN {base : Nat} {w w' : World} {v : Value} {L : List FV} (h : OwnF base w v L) (g : w.grownBy w' none) (hb : base ≤ w.heap.size) : OwnF base w' v L := ⟨World.ownsRow.kept h.row g (by cases v.ownBlock <;> simp), fun x hx => (h.each x hx).keepN g hb⟩
theorem OwnF.blk {base : Nat} {w : World} {v : Value} {L : List FV} (h : OwnF base w v L) : ∀ k, v.ownBlock = some k → base ≤ k ∧ ∃ cs, w.heap[k]? = some (.cells cs 26 (0, 0)) := fun k hk => by
  rcases h.row.2 with ⟨rfl, -⟩ | ⟨b, c, cur, rfl, q1, q2, -⟩
  · cases hk
  · injection hk with hk; exact hk ▸ ⟨q1, cur, q2⟩
theorem OwnF.rd {base : Nat} {w : World} {v : Value} {L : List FV} (h : OwnF base w v L) : ∃ a c, v = .slice a L.length c ∧ RdF w a L ∧ L.length ≤ c ∧ c ≤ 9223372036854775807 := by
  rcases h.row.2 with ⟨e1, e2⟩ | ⟨g, c', cur, e1, q1, q2, q3, q4, q5, q6⟩
  · exact ⟨none, 0, by rw [e1, e2], ⟨fun x hx => (h.each x hx).rd, fun hne => absurd (List.length_eq_zero_iff.1 e2) hne⟩, by omega, by omega⟩
  · unfold maxLen at q4
    refine ⟨_, c', e1, ⟨fun x hx => (h.each x hx).rd, fun _ => ⟨g, 0, rfl, fun i hi j v hv => ?_⟩⟩, q3, by omega⟩
    have hj : j < 17 := by have := (Array.getElem?_eq_some_iff.1 hv).1; simpa [FV.C] using this
    rw [Nat.zero_add]
    unfold World.cell?
    rw [q2]
    have h1 : (cur.toList.take (L.length * 17))[i * 17 + j]? = (clF L)[i * 17 + j]? := by rw [q6]
    rw [List.getElem?_take, if_pos (by omega), Array.getElem?_toList, clF_get L i j hi hj, hv] at h1
    exact h1

theorem Try.infoF : (Try.prog.info? 26).map (fun i => (i.zero, i.size, i.bytes)) = some (some (.agg Z17), 17, 160) := by kernel_rfl

/-- One frame more, from a block of its own. -/
theorem app_frame {w0 W : World} {v : Value} {L : List FV} (x : FV) (h : OwnF w0.heap.size W v L) (hx : FrT w0.heap.size W x.f x.d x.r) (hg : w0.grownBy W none) (h1 : x.C.all (·.oneCell') = true) (hb : L.length ≤ 800000000000) :
    ∃ a' c' W', (∀ ty, (Builtin.append_ #[41, 41] ty #[v, .slice (some ⟨W.heap.size, 0, none⟩) 1 1]).run Try.prog (W.alloc (.cells x.C 26)) = .ok (.slice a' (L.length + 1) c') W') ∧ OwnF w0.heap.size W' (.slice a' (L.length + 1) c') (L ++ [x]) ∧ w0.grownBy W' none := by
  obtain ⟨i, hi, hz0, hz1, hz2⟩ := info_parts Try.infoF
  have gA := World.grownBy_alloc W (.cells x.C 26) none
  have hA := h.keepN gA hg.size
  obtain ⟨v', W', hr, ho, hgr, hnil⟩ := run_append_own (P := Try.prog) (W.alloc (.cells x.C 26)) w0.heap.size 41 41 26 i _ 17 160 Try.underlying41 hi hz0 hz1 hz2 rfl (by decide) v L.length (clF L) hA.row ⟨W.heap.size, 0, none⟩ 1 1 x.C.toList (by simp [FV.C]) (fun j u hj => by
    rw [addr_add, cell_of_row _ _ j x.C 26 (0, 0) (heap_alloc_new W _)]
    simpa using hj) (fun u hu => by
    rw [Array.all_eq_true] at h1
    obtain ⟨k, hk, rfl⟩ := List.mem_iff_getElem.1 hu
    have := h1 k (by simpa using hk)
    simpa using this) (by unfold maxLen; omega) (by omega) (Nat.le_trans hg.size gA.size)
  have e2 : clF (L ++ [x]) = clF L ++ x.C.toList := by simp [clF]
  have gT : w0.grownBy W' none := grown_own (hg.trans gA) hgr (fun k hk => (h.blk k hk).1)
  have hsz := Nat.le_trans hg.size gA.size
  have kp : ∀ y : FV, FrT w0.heap.size W y.f y.d y.r → FrT w0.heap.size W' y.f y.d y.r := fun y hy => (hy.keepN gA hg.size).keep hgr hA.blk hsz
  obtain ⟨a', c', rfl⟩ : ∃ a' c', v' = .slice a' (L.length + 1) c' := by
    rcases ho.2 with ⟨e1, e3⟩ | ⟨g', c', cur, e1, -⟩
    · omega
    · exact ⟨_, _, e1⟩
  refine ⟨a', c', W', fun _ => hr, ⟨by rw [List.length_append, e2]; exact ho, fun y hy => ?_⟩, gT⟩
  rcases List.mem_append.1 hy with hy | hy
  · exact kp y (h.each y hy)
  · obtain rfl := List.mem_singleton.1 hy; exact kp _ hx

/-- A list of one frame. -/
theorem wpList_one_frame {ops : Array Oper} {rest : List Oper} {o : Oper} {a : Act} {w : World} {Q : Exit → Act → World → Prop} (hg : o.guard = none) (x : Operand) (ho : o.op = .buildSlice 41 1 #[(0, x)]) (C : Array Value) (hx : a.eval x = .agg C) (h17 : C.size = 17)
    (h : wpList Try.prog ops Q rest (a.put o.dst (.slice (some ⟨w.heap.size, 0, none⟩) 1 1)) (w.alloc (.cells C 26))) : wpList Try.prog ops Q (o :: rest) a w := by
  obtain ⟨i, hi, hz0, hz1, hz2⟩ := info_parts Try.infoF
  refine wpList_buildSlice hg 41 26 1 #[(0, x)] ho C i _ Try.underlying41 hi hz0 (by rw [hz1]; decide) (by rw [hz1]; decide) ?_ h
  rw [hz1]
  have e1 : ((#[(0, x)] : Array (Nat × Operand)).map fun (i, x) => (i, a.eval x)).toList = [(0, a.eval x)] := by simp
  rw [e1, hx]
  have := Great.fill_whole (s := 17) (by decide) [.agg C] ((Array.range (1 * 17)).map ((Value.agg Z17).cells[· % (Value.agg Z17).cells.size]!)) (by simpa [Value.cells] using h17) (by simp)
  simpa [Value.cells] using this

/-- An element is loaded whole. -/
theorem load_at {w : World} {b o : Nat} {C : Array Value} (h17 : C.size = 17) (hc : ∀ j v, C[j]? = some v → w.cell? ⟨b, o + j, none⟩ = some v) : (loadVar 26 ⟨b, o, none⟩).run Try.prog w = .ok (.agg C) w := by
  have hl : (loadCells ⟨b, o, none⟩ C.toList.length).run Try.prog w = .ok C.toList.toArray w :=
    run_loadCells_list (P := Try.prog) w ⟨b, o, none⟩ C.toList (fun j v hv => by
      have hadd : (⟨b, o, none⟩ : Addr).add j = ⟨b, o + j, none⟩ := by unfold Addr.add; split <;> simp_all
      rw [hadd]
      exact hc j v (by simpa using hv))
  obtain ⟨i, hi, hz0, hz1, hz2⟩ := info_parts Try.infoF
  have hagg : (isAgg 26).run Try.prog w = .ok true w := by
    unfold isAgg
    rw [Sem.run_bind, run_underlying Try.underlying26 w]
    rfl
  simp only [Array.length_toList, Array.toArray_toList, h17] at hl
  simp [loadVar, Sem.run_bind, hagg, sizeOf, typeInfo, hi, hz1, hl]
theorem wpList_load_at {ops : Array Oper} {rest : List Oper} {op : Oper} {a : Act} {w : World} {Q : Exit → Act → World → Prop} (hgd : op.guard = none) (x : Operand) (ho : op.op = .load 26 x) (b o : Nat) (C : Array Value)
    (hx : a.eval x = .pointer (some ⟨b, o, none⟩)) (h17 : C.size = 17) (hc : ∀ j v, C[j]? = some v → w.cell? ⟨b, o + j, none⟩ = some v)
    (h : wpList Try.prog ops Q rest (a.put op.dst (.agg C)) w) : wpList Try.prog ops Q (op :: rest) a w :=
  wpList_plain hgd fun _ hK => by
    unfold Oper.wp execOp
    simp only [ho, hx, Instr.loadAt, Instr.sureAddr, Sem.run_bind, Sem.run_pure, Result.andThen_ok, load_at h17 hc]
    exact hK _ _ h
end Go.Proofs.Ytggjeamondampab

namespace Go.Proofs.Ytggjeamondampab
open Go.RowKit
set_option linter.unusedVariables false
set_option linter.unusedSimpArgs false
set_option maxRecDepth 100000
set_option maxHeartbeats 4000000

def joinG (T : List Int) : List Fr → List Int × Int
  | [] => (T, 0)
  | f :: R => match tellF f with
    | .inr e => ([], e)
    | .inl (n, rs) => if f.tail = true ∧ R ≠ [] then ([], 42) else joinG (T ++ (encL n ++ rs)) R

theorem joinG_ok : ∀ (L : List Fr) (T b : List Int), joinG T L = (b, 0) → ∃ r, b = T ++ r ∧ JoinOk L r := by
  intro L
  induction L with
  | nil => intro T b h; simp only [joinG, Prod.mk.injEq] at h; exact ⟨[], by simp [h.1], rfl⟩
  | cons f L ih =>
    intro T b h
    simp only [joinG] at h
    split at h
    · rename_i e he
      simp only [Prod.mk.injEq] at h
      rcases tell_err he with h1 | h1 <;> (rw [h1] at h; exact absurd h.2 (by decide))
    · rename_i n rs ht
      split at h
      · simp at h
      · rename_i hn
        obtain ⟨r, h1, h2⟩ := ih _ _ h
        refine ⟨encL n ++ rs ++ r, by rw [h1]; simp, n, rs, r, ht, fun htl => ?_, rfl, h2⟩
        by_cases hL : L = []
        · exact hL
        · exact absurd ⟨htl, hL⟩ hn
theorem joinG_err : ∀ (L : List Fr) (T b : List Int) (e : Int), joinG T L = (b, e) → e ≠ 0 → b = [] ∧ L ≠ [] := by
  intro L
  induction L with
  | nil => intro T b e h he; simp only [joinG, Prod.mk.injEq] at h; exact absurd h.2.symm he
  | cons f L ih =>
    intro T b e h he
    refine ⟨?_, by simp⟩
    simp only [joinG] at h
    split at h
    · simp only [Prod.mk.injEq] at h; exact h.1.symm
    · split at h
      · simp only [Prod.mk.injEq] at h; exact h.1.symm
      · exact (ih _ _ _ h he).1

theorem tell_len18 {f : Fr} {n rs : List Int} (ht : tellF f = .inl (n, rs)) (hr : f.runs.length ≤ 1048576) (hd : f.data.length ≤ 1048576) : (encL n ++ rs).length ≤ 18000000 := by
  obtain ⟨t1, t2, t3, t4⟩ := tell_ok ht (by unfold MAXN; omega)
  have := encL_le n
  rw [List.length_append]
  rcases t3 with e | ⟨e, -⟩
  · rw [e]; omega
  · omega

/-- Frames that came in. -/
structure InF (w : World) (a : Option Addr) (L : List FV) : Prop where
  rd : RdF w a L
  each : ∀ x ∈ L, FrIn w x.f x.d x.r ∧ TS w x.d x.f.data ∧ (-9223372036854775808 ≤ x.f.kind ∧ x.f.kind ≤ 9223372036854775807) ∧ x.f.data.length ≤ 1048576 ∧ x.f.runs.length ≤ 1048576
  few : L.length ≤ 65536
theorem oneC (x : FV) {w : World} (h : FrR w x.f x.d x.r) : x.C.all (·.oneCell') = true := by
  obtain ⟨a, c, e, -⟩ := h.data
  obtain ⟨a', c', e', -⟩ := h.runs
  exact one17 x.f x.d x.r (by rw [e]; rfl) (by rw [e']; rfl)

theorem joinFr_any (a : Option Addr) (c N : Nat) (L : List FV) (w : World) (hN : L.length = N) (h : InF w a L) (hc : N ≤ c ∧ c ≤ 9223372036854775807) :
    Calls Try.prog 15 #[.slice a N c] w fun e w' => ∃ v, e = .returned (.tuple #[v, .int .i64 (joinG [] (L.map FV.f)).2]) ∧ OwnB w.heap.size w' v (joinG [] (L.map FV.f)).1 ∧ w.grownBy w' none := by
  have few := h.few
  have nI : N ≤ 65536 := by omega
  have HH := hide h
  have HN := hide hN
  clear h hN few
  go_enter Try.func15, Try.ntmps15
  go_wp2
  go_loopw [4, 11] (fun b i wr => ∃ (k : Nat) (T : List Int), k ≤ N ∧ i = .int .i64 k ∧ Hid (OwnB w.heap.size wr b T ∧ w.grownBy wr none ∧ joinG [] (L.map FV.f) = joinG T ((L.map FV.f).drop k) ∧ T.length ≤ k * 18000000)) (fun _ i _ => N - (intOf i).toNat)
  case atStart => exact ⟨0, [], Nat.zero_le _, rfl, World.ownsRow_nil _ _ _ _, World.grownBy.refl w none, rfl, by simp⟩
  case round =>
    obtain ⟨k, T, hk, rfl, H⟩ := hrel
    by_cases hlt : k < N
    · have hkL : k < L.length := by rw [unhide HN]; exact hlt
      have kI : (k : Int) < (N : Int) := by omega
      obtain ⟨bb, off, rfl, hcs⟩ := (unhide HH).rd.cells (fun e => by rw [e] at hkL; simp at hkL)
      obtain ⟨x, hx⟩ : ∃ x, x = L.getD k fv0 := ⟨_, rfl⟩
      have hmem : x ∈ L := by rw [hx]; simp [List.getD, hkL]
      have cl := fun j v hv => cell_grown (hcs k hkL j v (by rw [← hx]; exact hv)) (unhide H).2.1
      obtain ⟨hF, hD, hkd, hdl, hrl⟩ := (unhide HH).each x hmem
      have hRr := (unhide HH).rd.each x hmem
      have C1 := oneC x hRr
      have dr : (L.map FV.f).drop k = x.f :: (L.map FV.f).drop (k + 1) := by
        rw [List.drop_eq_getElem_cons (by simpa using hkL)]
        congr 1
        simp [hx, List.getD, hkL]
      have g1 := World.grownBy_alloc wr (.cells x.C 26) none
      have gw := (unhide H).2.1.trans g1
      have en := encode_folded x.f x.d x.r _ (hF.keep gw) (hD.keep gw) hkd (by omega) (by omega)
      obtain ⟨C, hC⟩ : ∃ C, C = x.C := ⟨_, rfl⟩
      have eV : x.f.val x.d x.r = .agg C := by rw [hC]
      rw [eV, ← hC] at en
      rw [← hC] at cl C1 g1 gw
      have C17 : C.size = 17 := by rw [hC]; rfl
      have iC : (Try.prog.info? 26).map (·.size) = some C.size := by rw [C17]; exact Try.size26
      have B1 := Blk.new wr C 26
      have HS := hide hC
      have inv := hide (And.intro (unhide H).1 (And.intro (unhide H).2.2 (And.intro g1 gw)))
      have tls : Hid ((k : Int) + 1 < (N : Int) ↔ (L.map FV.f).drop (k + 1) ≠ []) := by
        show _ ↔ _
        have : ((L.map FV.f).drop (k + 1)).length = N - (k + 1) := by simp [unhide HN]
        constructor
        · intro hh he; rw [he] at this; simp at this; omega
        · intro hh; have := List.length_pos_iff.2 hh; omega
      have HL := hide (And.intro hdl hrl)
      have HBD : Hid (Bs x.f.data) := by obtain ⟨_, _, _, h, -⟩ := hRr.data; exact h.1
      have HLT := hide hlt
      have wk : IntKind.i64.wrap ((k : Int) + 1) = (k : Int) + 1 := by rw [IntKind.wrap_i64]; omega
      obtain ⟨bv, bc, rfl⟩ := (unhide H).1.shape
      clear hcs hF hD hkd hRr hmem hkL hk hlt H g1 gw eV hC hx hdl hrl
      go_upto_region 5 with (first | (refine wpList_load_at rfl (Operand.tmp 14) rfl bb (off + k * 17) C rfl C17 cl ?_) | (refine wpList_store_new _ Z17 C wr.heap.size rfl _ _ _ rfl rfl rfl rfl iC (by rw [C17]; rfl) C1 ?_))
      have x6 := B1.cell 6 (.bool x.f.tail) (by rw [unhide HS]; rfl)
      go_upto_region 6 with (first | (refine wpList_load_row rfl _ _ rfl wr.heap.size rfl 26 C (0, 0) _ B1 Try.underlying26 rfl iC ?_) | (go_at_call 9; refine en.mono ?_; rintro e W2 ⟨ax, cx, rfl, o2, g2⟩))
      have b2 := B1.grown g2
      have y6 := b2.cell 6 (.bool x.f.tail) (by rw [unhide HS]; rfl)
      have O2 := hide (And.intro o2 g2)
      clear en o2 g2 B1 cl x6 b2
      cases ht : tellF x.f with
      | inr e =>
        have eE : encF x.f = ([], e) := by unfold encF; rw [ht]
        have nx : (e != 0) = true := by rcases tell_err ht with rfl | rfl <;> rfl
        have FIN : Hid (∃ v, (Value.tuple #[nilS, Value.int .i64 e]) = Value.tuple #[v, .int .i64 (joinG [] (L.map FV.f)).2] ∧ OwnB w.heap.size W2 v (joinG [] (L.map FV.f)).1 ∧ w.grownBy W2 none) := by
          have j1 := (unhide inv).2.1.1
          rw [dr] at j1
          simp only [joinG, ht] at j1
          rw [j1]
          exact ⟨nilS, rfl, World.ownsRow_nil _ _ _ _, (unhide inv).2.2.2.trans (unhide O2).2⟩
        rw [eE]
        clear eE ht dr inv O2 HS
        go_wp2
        go_ret2
        obtain ⟨v, e1, e2, e3⟩ := unhide FIN
        exact ⟨v, congrArg Ending.returned e1, e2, e3⟩
      | inl nr =>
        obtain ⟨n, rs⟩ := nr
        have eE : encF x.f = (encL n ++ rs, 0) := by unfold encF; rw [ht]
        have bl := tell_len18 ht (unhide HL).2 (unhide HL).1
        rw [eE] at O2 ⊢
        simp only at O2 ⊢
        by_cases htl : x.f.tail = true ∧ (L.map FV.f).drop (k + 1) ≠ []
        · have kk := (unhide tls).2 htl.2
          have dk : decide ((k : Int) + 1 < (N : Int)) = true := decide_eq_true kk
          rw [htl.1] at y6
          have FIN : Hid (∃ v, (Value.tuple #[nilS, Value.int .i64 42]) = Value.tuple #[v, .int .i64 (joinG [] (L.map FV.f)).2] ∧ OwnB w.heap.size W2 v (joinG [] (L.map FV.f)).1 ∧ w.grownBy W2 none) := by
            have j1 := (unhide inv).2.1.1
            rw [dr] at j1
            simp only [joinG, ht] at j1
            rw [if_pos htl] at j1
            rw [j1]
            exact ⟨nilS, rfl, World.ownsRow_nil _ _ _ _, (unhide inv).2.2.2.trans (unhide O2).2⟩
          clear eE ht dr inv O2 HS htl tls bl
          go_wp2
          go_ret2
          obtain ⟨v, e1, e2, e3⟩ := unhide FIN
          exact ⟨v, congrArg Ending.returned e1, e2, e3⟩
        · have hml : (x.f.runs.length : Int) ≤ MAXN := by have := (unhide HL).2; unfold MAXN; omega
          have bs := tell_bytes ht hml (unhide HBD)
          have dk : Hid (x.f.tail = false ∨ (x.f.tail = true ∧ ¬ ((k : Int) + 1 < (N : Int)))) := by
            show _ ∨ _
            cases hq : x.f.tail
            · exact .inl rfl
            · exact .inr ⟨rfl, fun hh => htl ⟨hq, (unhide tls).1 hh⟩⟩
          have j1 := (unhide inv).2.1.1
          rw [dr] at j1
          simp only [joinG, ht] at j1
          rw [if_neg htl] at j1
          have bl2 := (unhide inv).2.1.2
          clear ht dr htl tls hml eE
          generalize encL n ++ rs = E at *
          obtain ⟨a', c', e', rE, -⟩ := (unhide O2).1.rd bs
          injection e' with e1 e2 e3
          rw [← e1] at rE
          clear e1 e2 e3
          have gT := (unhide inv).2.2.2.trans (unhide O2).2
          have oT := ((unhide inv).1.keepN (unhide inv).2.2.1).keepN (unhide O2).2
          obtain ⟨a4, c4', W4, hap, o4, g4⟩ := app_rd cx oT gT rE (by omega)
          have E4 : Hid (OwnB w.heap.size W4 (.slice a4 (T.length + E.length) c4') (T ++ E) ∧ w.grownBy W4 none ∧ joinG [] (L.map FV.f) = joinG (T ++ E) ((L.map FV.f).drop (k + 1)) ∧ (T ++ E).length ≤ (k + 1) * 18000000) := ⟨o4, g4, j1, by rw [List.length_append]; omega⟩
          clear j1 bl2 bl bs oT gT rE o4 g4 O2 inv HBD HL HS a' c'
          generalize T.length = m0 at *
          generalize E.length = z at *
          rcases unhide dk with t | ⟨t, dq⟩
          · rw [t] at y6
            clear t dk
            go_wp2_with (at_builtin; refine wpList_append_run _ rfl (Operand.tmp 33) (Operand.tmp 34) 22 22 rfl (.slice bv m0 bc) (.slice ax z cx) rfl rfl (hap 22) ?_)
            exact ⟨⟨k + 1, T ++ E, unhide HLT, by go_num, unhide E4⟩, by simp [intOf]; have := unhide HLT; omega⟩
          · rw [t] at y6
            have dk2 : decide ((k : Int) + 1 < (N : Int)) = false := decide_eq_false dq
            clear t dk
            go_wp2_with (at_builtin; refine wpList_append_run _ rfl (Operand.tmp 33) (Operand.tmp 34) 22 22 rfl (.slice bv m0 bc) (.slice ax z cx) rfl rfl (hap 22) ?_)
            exact ⟨⟨k + 1, T ++ E, unhide HLT, by go_num, unhide E4⟩, by simp [intOf]; have := unhide HLT; omega⟩
    · obtain rfl : k = N := by omega
      have kI : ¬ (k : Int) < (k : Int) := by omega
      have eD : (L.map FV.f).drop k = [] := by rw [← unhide HN]; simp
      have FIN : Hid (OwnB w.heap.size wr u4 (joinG [] (L.map FV.f)).1 ∧ (joinG [] (L.map FV.f)).2 = 0 ∧ w.grownBy wr none) := by
        obtain ⟨h1, h2, h3, -⟩ := unhide H
        rw [eD] at h3
        simp only [joinG] at h3
        rw [h3]
        exact ⟨h1, rfl, h2⟩
      clear H eD
      go_wp2
      go_ret2
      exact ⟨_, by rw [(unhide FIN).2.1]; rfl, (unhide FIN).1, (unhide FIN).2.2⟩
end Go.Proofs.Ytggjeamondampab

namespace Go.Proofs.Ytggjeamondampab
open Go.RowKit
set_option linter.unusedVariables false
set_option linter.unusedSimpArgs false
set_option maxRecDepth 100000
set_option maxHeartbeats 4000000

theorem Decs.length {l : List Int} {fs : List Fr} (h : Decs l fs) : fs.length ≤ l.length := by
  induction h with
  | nil => exact Nat.le_refl _
  | cons h1 h2 h3 h4 ih => simp; omega

/-- Decode, as a loop of decodings has it. -/
theorem decode_next {w : World} {v : Value} {l : List Int} {k : Nat} {f : Fr} {l1 : List Int} (h : InS w v l) (hk : k ≤ l.length) (hl : l.length ≤ 4000000000000) (hd : decF (l.drop k) = .inl (f, l1)) (hb : Bs (l.drop k)) :
    Calls Try.prog 11 #[v, .int .i64 (k : Int)] w fun e w' => ∃ (d r : Value) (C : Array Value), e = .returned (.tuple #[.agg C, .int .i64 ((l.length - l1.length : Nat) : Int), .int .i64 0]) ∧ C.size = 17 ∧ C.all (·.oneCell') = true ∧ w.grownBy w' none ∧ Hid (C = f.cs d r ∧ OwnB w.heap.size w' d f.data ∧ OwnR w.heap.size w' r f.runs) := by
  refine (decode_folded h hk hl).mono ?_
  rintro e w' (⟨C, m, rfl, s, o, g, H⟩ | ⟨e', hx, -⟩)
  · obtain ⟨f', l1', d', r', hx, hm, hC, oB, oR⟩ := unhide H
    rw [hd] at hx
    cases hx
    exact ⟨d', r', C, by rw [hm], s, o, g, hC, oB, oR⟩
  · rw [hd] at hx; cases hx

theorem parse_any (a : Option Addr) (c N : Nat) (l : List Int) (fs : List Fr) (w : World) (hN : l.length = N) (h : InS w (.slice a N c) l) (hb : Bs l) (hl : N ≤ 4000000000000) (hne : l ≠ []) (hd : Decs l fs) (hfl : fs.length ≤ 800000000000) :
    Calls Try.prog 16 #[.slice a N c] w fun e w' => ∃ (v : Value), e = .returned (.tuple #[v, .int .i64 (N : Int), .int .i64 0]) ∧ ∃ L : List FV, L.map FV.f = fs ∧ OwnF w.heap.size w' v L ∧ w.grownBy w' none := by
  have HH := hide h
  have HN := hide hN
  have HB := hide hb
  have HD := hide hd
  have hpos : 0 < N := by rw [← hN]; exact List.length_pos_iff.2 hne
  have p1 : ((N : Int) == 0) = false := by simp; omega
  have p2 : ¬ (N : Int) = 0 := by omega
  have p3 : (N == 0) = false := by simp; omega
  have p4 : ¬ N = 0 := by omega
  have HFL := hide hfl
  clear h hN hb hd hne hfl
  go_enter Try.func16, Try.ntmps16
  go_wp2
  go_loopw [5, 6] (fun b i wr => ∃ (k : Nat) (L : List FV) (gs : List Fr), k ≤ N ∧ i = .int .i64 k ∧ Hid (OwnF w.heap.size wr b L ∧ w.grownBy wr none ∧ L.map FV.f ++ gs = fs ∧ Decs (l.drop k) gs ∧ L.length ≤ k)) (fun _ i _ => N - (intOf i).toNat)
  case atStart => exact ⟨0, [], fs, Nat.zero_le _, rfl, OwnF.nil _ _, World.grownBy.refl w none, rfl, unhide HD, Nat.le_refl _⟩
  case round =>
    obtain ⟨k, L, gs, hk, rfl, H⟩ := hrel
    by_cases hlt : k < N
    · have kI : (k : Int) < (N : Int) := by omega
      obtain ⟨o1, g1, e1, d1, lk⟩ := unhide H
      have hkl : (l.drop k).length = N - k := by rw [List.length_drop, unhide HN]
      have bk : Bs (l.drop k) := (unhide HB).drop k
      generalize hlk : l.drop k = lk' at d1
      cases d1 with
      | nil => rw [hlk] at hkl; simp at hkl; omega
      | @cons _ l1 f gs' q1 q2 q3 q4 =>
        rw [← hlk] at q1 q2 q3
        have de := decode_next ((unhide HH).keep g1) (by rw [unhide HN]; omega) (by rw [unhide HN]; omega) q1 bk
        have pb := read_pure bk q1
        obtain ⟨-, -, -, -, -, -, bdat⟩ := pb
        obtain ⟨m, hm⟩ : ∃ m, m = N - l1.length := ⟨_, rfl⟩
        rw [unhide HN, ← hm] at de
        have mk : k < m ∧ m ≤ N := by rw [hkl] at q2; omega
        have dm : l.drop m = l1 := by
          rw [hkl] at q3
          rw [List.drop_drop] at q3
          rw [hm, show N - l1.length = k + (N - k - l1.length) by rw [hkl] at q2; omega]
          exact q3.symm
        have HM := hide hm
        have HP := hide (And.intro o1 (And.intro g1 (And.intro e1 (And.intro lk (And.intro bdat (And.intro mk (And.intro dm q4)))))))
        obtain ⟨bv, bc, rfl, -⟩ := o1.shape
        clear H o1 g1 e1 lk hkl bk hlk q1 q2 q3 q4 bdat mk dm hm hk hlt
        go_upto_region 7 with (first | (go_at_call 11; refine de.mono ?_; rintro e W2 ⟨d2, r2, C, rfl, s2, a2, g2, H2⟩; have iC : (Try.prog.info? 26).map (·.size) = some C.size := (by rw [s2]; exact Try.size26)) | (refine wpList_store_new _ Z17 C W2.heap.size rfl _ _ _ rfl rfl rfl rfl iC (by rw [s2]; rfl) a2 ?_))
        obtain ⟨o1, g1, e1, lk, bdat, mk, dm, q4⟩ := unhide HP
        obtain ⟨hC, oB, oR⟩ := unhide H2
        have B2 := Blk.new W2 C 26
        have g3 := World.grownBy_alloc W2 (.cells C 26) none
        have gw3 := (g1.trans g2).trans g3
        have oL := ((o1.keepN g2 g1.size).keepN g3 (Nat.le_trans g1.size g2.size))
        have tF : FrT w.heap.size (W2.alloc (.cells C 26)) f d2 r2 := (FrT.own oB oR bdat).keepN g3 (Nat.le_trans g1.size g2.size)
        obtain ⟨a4, c4', W4, hap, o4, g4⟩ := app_frame ⟨f, d2, r2⟩ oL tF gw3 (by show (f.cs d2 r2).all _ = true; rw [← hC]; exact a2) (by have hh := congrArg List.length e1; simp only [List.length_append, List.length_map] at hh; have := unhide HFL; omega)
        have eC : (⟨f, d2, r2⟩ : FV).C = C := hC.symm
        rw [eC] at hap
        have FIN : Hid (OwnF w.heap.size W4 (.slice a4 (L.length + 1) c4') (L ++ [(⟨f, d2, r2⟩ : FV)]) ∧ w.grownBy W4 none ∧ (L ++ [(⟨f, d2, r2⟩ : FV)]).map FV.f ++ gs' = fs ∧ Decs (l.drop m) gs' ∧ (L ++ [(⟨f, d2, r2⟩ : FV)]).length ≤ m) := ⟨o4, g4, by simpa using e1, by rw [dm]; exact q4, by simp; omega⟩
        have HMK := hide mk
        clear o1 g1 e1 lk bdat dm q4 oB oR tF oL gw3 o4 g4 hC eC H2 g2 HP de g3 mk
        generalize W2.alloc (.cells C 26) = W3 at *
        generalize W2.heap.size = b3 at *
        generalize L.length = ll at *
        go_upto_region 9 with fail
        go_upto_region 10 with (first | (refine wpList_load_row rfl _ _ rfl b3 rfl 26 C (0, 0) _ B2 Try.underlying26 rfl iC ?_) | (refine wpList_one_frame rfl (Operand.tmp 29) rfl C rfl s2 ?_) | (at_builtin; refine wpList_append_run _ rfl (Operand.tmp 28) (Operand.tmp 30) 41 41 rfl (.slice bv ll bc) (.slice (some ⟨W3.heap.size, 0, none⟩) 1 1) rfl rfl (hap 41) ?_))
        go_wp2
        exact ⟨⟨m, _, gs', (unhide HMK).2, rfl, unhide FIN⟩, by simp [intOf]; have := (unhide HMK).1; have := (unhide HMK).2; omega⟩
    · obtain rfl : k = N := by omega
      have kI : ¬ (k : Int) < (k : Int) := by omega
      have FIN : Hid (L.map FV.f = fs ∧ OwnF w.heap.size wr u5 L ∧ w.grownBy wr none) := by
        obtain ⟨o1, g1, e1, d1, -⟩ := unhide H
        have : l.drop k = [] := by rw [← unhide HN]; simp
        rw [this] at d1
        cases d1 with
        | nil => exact ⟨by simpa using e1, o1, g1⟩
        | cons q1 q2 _ _ => simp at q2
      clear H
      go_wp2
      go_ret3
      exact ⟨_, rfl, L, (unhide FIN).1, (unhide FIN).2.1, (unhide FIN).2.2⟩
end Go.Proofs.Ytggjeamondampab

namespace Go.Proofs.Ytggjeamondampab
open Go.RowKit
set_option linter.unusedVariables false
set_option linter.unusedSimpArgs false
set_option maxRecDepth 100000
set_option maxHeartbeats 4000000

theorem chunks_len : ∀ s, (chunks s).length ≤ s := by
  intro s
  induction s using Nat.strongRecOn with
  | _ s ih =>
    by_cases h0 : s = 0
    · subst h0; rw [chunks_zero]; simp
    · rw [chunks_pos (by omega)]
      have := ih (s - min s 65535) (by omega)
      simp; omega
def padV (n : Nat) : FV := ⟨padF n, nilS, nilS⟩
abbrev padC (n : Nat) : Array Value := #[.int .i64 0, .int .i64 0, .int .i64 0, .slice none 0 0, .int .i64 (n : Int), .bool false, .bool false, .int .i64 0, .bool false, .int .i64 0, .bool false, .int .i64 0, .slice none 0 0, .bool false, .int .i64 0, .int .i64 0, .int .i64 0]
theorem padV_C (n : Nat) : (padV n).C = padC n := rfl

/-- What merged holds between two frames. -/
structure MI (w wr : World) (L : List FV) (N k s : Nat) (v : Value) (M : List FV) : Prop where
  own : OwnF w.heap.size wr v M
  gr : w.grownBy wr none
  eq : k ≤ N → mergeF 0 (L.map FV.f) = M.map FV.f ++ mergeF s ((L.map FV.f).drop k)
  fin : k = N + 1 → mergeF 0 (L.map FV.f) = M.map FV.f
  sum : s ≤ k * 65535
  few : M.length + s ≤ k * 65536

theorem merged_any (a : Option Addr) (c N : Nat) (L : List FV) (w : World) (hN : L.length = N) (h : InF w a L) (hc : N ≤ c ∧ c ≤ 9223372036854775807) (hp : ∀ x ∈ L, x.f.kind = 0 → 0 ≤ x.f.size ∧ x.f.size ≤ 65535) :
    Calls Try.prog 17 #[.slice a N c] w fun e w' => ∃ v, e = .returned v ∧ ∃ M : List FV, M.map FV.f = mergeF 0 (L.map FV.f) ∧ OwnF w.heap.size w' v M ∧ w.grownBy w' none := by
  have few := h.few
  have nI : N ≤ 65536 := by omega
  have HH := hide h
  have HN := hide hN
  have HP := hide hp
  clear h hN few hp
  go_enter Try.func17, Try.ntmps17
  go_wp2
  go_loopw [3, 4, 5] (fun b sv i wr => ∃ (k s : Nat) (M : List FV), k ≤ N + 1 ∧ i = .int .i64 k ∧ sv = .int .i64 (s : Int) ∧ Hid (MI w wr L N k s b M)) (fun _ _ i _ => N + 1 - (intOf i).toNat)
  case atStart => exact ⟨0, 0, [], Nat.zero_le _, rfl, rfl, OwnF.nil _ _, World.grownBy.refl w none, fun _ => rfl, fun h => absurd h (by omega), by omega, by simp⟩
  case round =>
    obtain ⟨k, s, M, hk, rfl, rfl, H⟩ := hrel
    have ssum := (unhide H).sum
    have s64 : s ≤ 5000000000 := by omega
    clear ssum
    by_cases hle : k ≤ N
    · have kI : (k : Int) ≤ (N : Int) := by omega
      have kd : decide ((k : Int) ≤ (N : Int)) = true := decide_eq_true kI
      by_cases hpad : k < N ∧ (L.getD k fv0).f.kind = 0
      · have hkL : k < L.length := by rw [unhide HN]; exact hpad.1
        obtain ⟨bb, off, rfl, hcs⟩ := (unhide HH).rd.cells (fun e => by rw [e] at hkL; simp at hkL)
        have hmem : L.getD k fv0 ∈ L := by simp [List.getD, hkL]
        have sz := unhide HP _ hmem hpad.2
        have c0 := cell_grown (hcs k hkL 0 (.int .i64 (L.getD k fv0).f.kind) rfl) (unhide H).gr
        have c4 := cell_grown (hcs k hkL 4 (.int .i64 (L.getD k fv0).f.size) rfl) (unhide H).gr
        rw [hpad.2] at c0
        obtain ⟨z, hz⟩ := Int.eq_ofNat_of_zero_le sz.1
        have z1 : z ≤ 65535 := by omega
        rw [hz] at c4
        have dr : (L.map FV.f).drop k = (L.getD k fv0).f :: (L.map FV.f).drop (k + 1) := by
          rw [List.drop_eq_getElem_cons (by simpa using hkL)]
          congr 1
          simp [List.getD, hkL]
        have H' : Hid (MI w wr L N (k + 1) (s + z) u3 M) := by
          obtain ⟨h1, h2, h3, h4, h5, h6⟩ := unhide H
          refine ⟨h1, h2, fun _ => ?_, fun e => absurd e (by omega), by omega, by omega⟩
          rw [h3 hle, dr]
          simp only [mergeF]
          rw [if_pos hpad.2, hz]
          rfl
        have k2 : (k : Int) < (N : Int) := by omega
        have k3 : k < N := hpad.1
        have wz : IntKind.i64.wrap ((s : Int) + (z : Int)) = (s : Int) + (z : Int) := by rw [IntKind.wrap_i64]; omega
        rw [Nat.add_zero] at c0
        clear H hcs hmem sz dr hpad hkL hz hk
        go_wp2
        exact ⟨⟨k + 1, s + z, M, by omega, by go_num, by go_num, unhide H'⟩, by simp [intOf]; omega⟩
      · by_cases hkN : k < N
        · have hkind : ¬ (L.getD k fv0).f.kind = 0 := fun e => hpad ⟨hkN, e⟩
          have hkL : k < L.length := by rw [unhide HN]; exact hkN
          obtain ⟨bb, off, rfl, hcs⟩ := (unhide HH).rd.cells (fun e => by rw [e] at hkL; simp at hkL)
          have hmem : L.getD k fv0 ∈ L := by simp [List.getD, hkL]
          have hRx := (unhide HH).rd.each _ hmem
          have c0 := cell_grown (hcs k hkL 0 (.int .i64 (L.getD k fv0).f.kind) rfl) (unhide H).gr
          rw [Nat.add_zero] at c0
          have dr : (L.map FV.f).drop k = (L.getD k fv0).f :: (L.map FV.f).drop (k + 1) := by
            rw [List.drop_eq_getElem_cons (by simpa using hkL)]
            congr 1
            simp [List.getD, hkL]
          obtain ⟨kz, hkz⟩ : ∃ kz, kz = (L.getD k fv0).f.kind := ⟨_, rfl⟩
          rw [← hkz] at c0
          have u0 : (kz == 0) = false := by rw [hkz]; simpa using hkind
          clear hkz
          replace hkind := hide hkind
          replace dr := hide dr
          replace hRx := hide hRx
          have k2 : (k : Int) < (N : Int) := by omega
          have k2d : decide ((k : Int) < (N : Int)) = true := decide_eq_true k2
          replace hcs := hide hcs
          clear hpad hmem
          go_wp2
          go_loopw [3, 4, 6] (fun b sv nv wq => ∃ (t : Nat) (M' : List FV), t ≤ s ∧ sv = .int .i64 (t : Int) ∧ Hid (OwnF w.heap.size wq b M' ∧ w.grownBy wq none ∧ M.map FV.f ++ chunks s = M'.map FV.f ++ chunks t ∧ M'.length + t ≤ M.length + s)) (fun _ sv _ _ => (intOf sv).toNat)
          case atStart => exact ⟨s, M, Nat.le_refl _, rfl, (unhide H).own, (unhide H).gr, rfl, Nat.le_refl _⟩
          case round =>
            obtain ⟨t, M', ht, rfl, H2⟩ := hrel
            by_cases htp : 0 < t
            · have d1 : (0 : Int) < (t : Int) := by omega
              have d2 : decide ((0 : Int) < (t : Int)) = true := decide_eq_true d1
              have d3 : decide (0 < t) = true := decide_eq_true htp
              obtain ⟨m, hm⟩ : ∃ m, m = min t 65535 := ⟨_, rfl⟩
              have fl := (unhide H).few
              obtain ⟨av, cv, evv, -⟩ := (unhide H2).1.shape
              subst evv
              obtain ⟨a4, c4', W4, hap, o4, g4⟩ := app_frame (padV m) (unhide H2).1 (FrT.zero _ _ (padF m) rfl rfl) (unhide H2).2.1 (one17 (padF m) nilS nilS rfl rfl) (by have := (unhide H2).2.2.2; omega)
              rw [padV_C] at hap
              have FIN : Hid (OwnF w.heap.size W4 (.slice a4 (M'.length + 1) c4') (M' ++ [padV m]) ∧ w.grownBy W4 none ∧ M.map FV.f ++ chunks s = (M' ++ [padV m]).map FV.f ++ chunks (t - m) ∧ (M' ++ [padV m]).length + (t - m) ≤ M.length + s) := by
                refine ⟨o4, g4, ?_, ?_⟩
                · rw [(unhide H2).2.2.1, chunks_pos htp, ← hm]
                  simp [padV]
                · have := (unhide H2).2.2.2
                  simp; omega
              have HM := hide (And.intro hm (And.intro ht htp))
              have ws : IntKind.i64.wrap ((t : Int) - (m : Int)) = ((t - m : Nat) : Int) := by rw [IntKind.wrap_i64]; omega
              have ml : m ≤ t := by omega
              have H2' : Hid (t - m ≤ s ∧ t - m < t) := ⟨by omega, by omega⟩
              clear H2 o4 g4 fl ht
              generalize M'.length = ll at *
              by_cases hbig : 65535 < t
              · have d4 : (65535 : Int) < (t : Int) := by omega
                have d5 : decide ((65535 : Int) < (t : Int)) = true := decide_eq_true d4
                obtain rfl : m = 65535 := by omega
                have ws64 : wrap64 ((t : Int) - 65535) = ((t - 65535 : Nat) : Int) := by have := (unhide HM).2.1; unfold wrap64; omega
                clear hm hbig
                go_upto_region 12 with fail
                go_upto_region 13 with (first | (refine wpList_one_frame rfl (Operand.tmp 39) rfl (padC 65535) rfl rfl ?_) | (at_builtin; refine wpList_append_run _ rfl (Operand.tmp 37) (Operand.tmp 40) 41 41 rfl (.slice av ll cv) (.slice (some ⟨wr.heap.size, 0, none⟩) 1 1) rfl rfl (hap 41) ?_))
                go_wp2
                exact ⟨⟨t - 65535, M' ++ [padV 65535], (unhide H2').1, by simpa using ws64, unhide FIN⟩, by simp [intOf, ws64]; have := (unhide H2').2; omega⟩
              · have d4 : ¬ (65535 : Int) < (t : Int) := by omega
                have d5 : decide ((65535 : Int) < (t : Int)) = false := decide_eq_false d4
                obtain rfl : m = t := by omega
                clear hm hbig
                go_upto_region 12 with fail
                go_upto_region 13 with (first | (refine wpList_one_frame rfl (Operand.tmp 39) rfl (padC m) rfl rfl ?_) | (at_builtin; refine wpList_append_run _ rfl (Operand.tmp 37) (Operand.tmp 40) 41 41 rfl (.slice av ll cv) (.slice (some ⟨wr.heap.size, 0, none⟩) 1 1) rfl rfl (hap 41) ?_))
                go_wp2
                exact ⟨⟨m - m, M' ++ [padV m], (unhide H2').1, by simp, unhide FIN⟩, by first | (simp [intOf]; done) | (simp [intOf]; omega)⟩
            · obtain rfl : t = 0 := by omega
              have eM : M.map FV.f ++ chunks s = M'.map FV.f := by have := (unhide H2).2.2.1; rwa [chunks_zero, List.append_nil] at this
              have fM : M'.length ≤ M.length + s := by have := (unhide H2).2.2.2; omega
              have fl := (unhide H).few
              have oX := (unhide H2).1
              obtain ⟨av, cv, evv, -⟩ := oX.shape
              subst evv
              have cl := fun j v hv => cell_grown ((unhide hcs) k hkL j v hv) (unhide H2).2.1
              have tX : FrT w.heap.size wr (L.getD k fv0).f (L.getD k fv0).d (L.getD k fv0).r := (FrT.old (unhide hRx)).keepN (unhide H2).2.1 (Nat.le_refl _)
              obtain ⟨a4, c4', W4, hap, o4, g4⟩ := app_frame (L.getD k fv0) oX tX (unhide H2).2.1 (oneC _ (unhide hRx)) (by omega)
              have H' : Hid (MI w W4 L N (k + 1) 0 (.slice a4 (M'.length + 1) c4') (M' ++ [L.getD k fv0])) := by
                obtain ⟨h1, h2, h3, h4, h5, h6⟩ := unhide H
                refine ⟨o4, g4, fun _ => ?_, fun e => absurd e (by omega), by omega, by simp; omega⟩
                rw [h3 hle, unhide dr]
                simp only [mergeF]
                rw [if_neg (unhide hkind), ← List.append_assoc, eM]
                simp
              obtain ⟨C, hC⟩ : ∃ C, C = (L.getD k fv0).C := ⟨_, rfl⟩
              have C17 : C.size = 17 := by rw [hC]; rfl
              have cl' : ∀ j v, C[j]? = some v → wr.cell? ⟨bb, off + k * 17 + j, none⟩ = some v := fun j v hv => cl j v (by rw [← hC]; exact hv)
              rw [← hC] at hap
              clear H H2 eM fM fl o4 g4 tX oX cl hC
              generalize M'.length = ll at *
              go_upto_region 15 with fail
              go_upto_region 5 with (first | (refine wpList_load_at rfl (Operand.tmp 52) rfl bb (off + k * 17) C rfl C17 cl' ?_) | (refine wpList_one_frame rfl (Operand.tmp 53) rfl C rfl C17 ?_) | (at_builtin; refine wpList_append_run _ rfl (Operand.tmp 49) (Operand.tmp 54) 41 41 rfl (.slice av ll cv) (.slice (some ⟨wr.heap.size, 0, none⟩) 1 1) rfl rfl (hap 41) ?_))
              go_wp2
              exact ⟨⟨k + 1, 0, _, by omega, by go_num, rfl, unhide H'⟩, by first | (simp [intOf]; done) | (simp [intOf]; omega)⟩
        · obtain rfl : k = N := by omega
          have k2 : ¬ (k : Int) < (k : Int) := by omega
          have dN : (L.map FV.f).drop k = [] := by rw [← unhide HN]; simp
          clear hpad
          go_wp2
          go_loopw [3, 4, 6] (fun b sv nv wq => ∃ (t : Nat) (M' : List FV), t ≤ s ∧ sv = .int .i64 (t : Int) ∧ Hid (OwnF w.heap.size wq b M' ∧ w.grownBy wq none ∧ M.map FV.f ++ chunks s = M'.map FV.f ++ chunks t ∧ M'.length + t ≤ M.length + s)) (fun _ sv _ _ => (intOf sv).toNat)
          case atStart => exact ⟨s, M, Nat.le_refl _, rfl, (unhide H).own, (unhide H).gr, rfl, Nat.le_refl _⟩
          case round =>
            obtain ⟨t, M', ht, rfl, H2⟩ := hrel
            by_cases htp : 0 < t
            · have d1 : (0 : Int) < (t : Int) := by omega
              have d2 : decide ((0 : Int) < (t : Int)) = true := decide_eq_true d1
              have d3 : decide (0 < t) = true := decide_eq_true htp
              obtain ⟨m, hm⟩ : ∃ m, m = min t 65535 := ⟨_, rfl⟩
              have fl := (unhide H).few
              obtain ⟨av, cv, evv, -⟩ := (unhide H2).1.shape
              subst evv
              obtain ⟨a4, c4', W4, hap, o4, g4⟩ := app_frame (padV m) (unhide H2).1 (FrT.zero _ _ (padF m) rfl rfl) (unhide H2).2.1 (one17 (padF m) nilS nilS rfl rfl) (by have := (unhide H2).2.2.2; omega)
              rw [padV_C] at hap
              have FIN : Hid (OwnF w.heap.size W4 (.slice a4 (M'.length + 1) c4') (M' ++ [padV m]) ∧ w.grownBy W4 none ∧ M.map FV.f ++ chunks s = (M' ++ [padV m]).map FV.f ++ chunks (t - m) ∧ (M' ++ [padV m]).length + (t - m) ≤ M.length + s) := by
                refine ⟨o4, g4, ?_, ?_⟩
                · rw [(unhide H2).2.2.1, chunks_pos htp, ← hm]
                  simp [padV]
                · have := (unhide H2).2.2.2
                  simp; omega
              have HM := hide (And.intro hm (And.intro ht htp))
              have ws : IntKind.i64.wrap ((t : Int) - (m : Int)) = ((t - m : Nat) : Int) := by rw [IntKind.wrap_i64]; omega
              have ml : m ≤ t := by omega
              have H2' : Hid (t - m ≤ s ∧ t - m < t) := ⟨by omega, by omega⟩
              clear H2 o4 g4 fl ht
              generalize M'.length = ll at *
              by_cases hbig : 65535 < t
              · have d4 : (65535 : Int) < (t : Int) := by omega
                have d5 : decide ((65535 : Int) < (t : Int)) = true := decide_eq_true d4
                obtain rfl : m = 65535 := by omega
                have ws64 : wrap64 ((t : Int) - 65535) = ((t - 65535 : Nat) : Int) := by have := (unhide HM).2.1; unfold wrap64; omega
                clear hm hbig
                go_upto_region 12 with fail
                go_upto_region 13 with (first | (refine wpList_one_frame rfl (Operand.tmp 39) rfl (padC 65535) rfl rfl ?_) | (at_builtin; refine wpList_append_run _ rfl (Operand.tmp 37) (Operand.tmp 40) 41 41 rfl (.slice av ll cv) (.slice (some ⟨wr.heap.size, 0, none⟩) 1 1) rfl rfl (hap 41) ?_))
                go_wp2
                exact ⟨⟨t - 65535, M' ++ [padV 65535], (unhide H2').1, by simpa using ws64, unhide FIN⟩, by simp [intOf, ws64]; have := (unhide H2').2; omega⟩
              · have d4 : ¬ (65535 : Int) < (t : Int) := by omega
                have d5 : decide ((65535 : Int) < (t : Int)) = false := decide_eq_false d4
                obtain rfl : m = t := by omega
                clear hm hbig
                go_upto_region 12 with fail
                go_upto_region 13 with (first | (refine wpList_one_frame rfl (Operand.tmp 39) rfl (padC m) rfl rfl ?_) | (at_builtin; refine wpList_append_run _ rfl (Operand.tmp 37) (Operand.tmp 40) 41 41 rfl (.slice av ll cv) (.slice (some ⟨wr.heap.size, 0, none⟩) 1 1) rfl rfl (hap 41) ?_))
                go_wp2
                exact ⟨⟨m - m, M' ++ [padV m], (unhide H2').1, by simp, unhide FIN⟩, by first | (simp [intOf]; done) | (simp [intOf]; omega)⟩
            · obtain rfl : t = 0 := by omega
              have eM : M.map FV.f ++ chunks s = M'.map FV.f := by have := (unhide H2).2.2.1; rwa [chunks_zero, List.append_nil] at this
              have fM : M'.length ≤ M.length + s := by have := (unhide H2).2.2.2; omega
              have fl := (unhide H).few
              have H' : Hid (MI w wr L k (k + 1) 0 u3 M') := by
                obtain ⟨h1, h2, h3, h4, h5, h6⟩ := unhide H
                refine ⟨(unhide H2).1, (unhide H2).2.1, fun e => absurd e (by omega), fun _ => ?_, by omega, by omega⟩
                rw [h3 (Nat.le_refl _), dN]
                simp only [mergeF]
                exact eM
              clear H H2 eM fM fl
              go_wp2
              exact ⟨⟨k + 1, 0, M', by omega, by go_num, rfl, unhide H'⟩, by first | (simp [intOf]; done) | (simp [intOf]; omega)⟩
    · obtain rfl : k = N + 1 := by omega
      have kI : ¬ ((N + 1 : Nat) : Int) ≤ (N : Int) := by omega
      have kd : decide (((N + 1 : Nat) : Int) ≤ (N : Int)) = false := decide_eq_false kI
      have kn : ¬ N + 1 ≤ N := by omega
      have FIN : Hid (M.map FV.f = mergeF 0 (L.map FV.f) ∧ OwnF w.heap.size wr u3 M ∧ w.grownBy wr none) := ⟨((unhide H).fin rfl).symm, (unhide H).own, (unhide H).gr⟩
      clear H
      go_wp2
      go_ret
      exact ⟨_, rfl, M, (unhide FIN).1, (unhide FIN).2.1, (unhide FIN).2.2⟩
end Go.Proofs.Ytggjeamondampab

namespace Go.Proofs.Ytggjeamondampab
open Go.RowKit
set_option linter.unusedVariables false
set_option linter.unusedSimpArgs false
set_option maxRecDepth 100000
set_option maxHeartbeats 1000000

theorem pad_enc (k : Nat) (h1 : 0 < k) (h2 : k ≤ 65535) : encF (padF k) = (List.replicate k 0, 0) := by
  have hd := dec_pad k [] h1 (by simp)
  rw [show min k 65535 = k by omega] at hd
  obtain ⟨n, rs, ht, -⟩ := read_pure (l := List.replicate k 0 ++ []) (fun x hx => by
    simp at hx; rw [hx.2]; exact ⟨by omega, by omega⟩) hd
  obtain ⟨r', -, -, -, k0⟩ := tell_head ht
  obtain ⟨eE, -, -⟩ := k0 rfl
  unfold encF
  rw [ht]
  simp only [eE]
  rfl

/-- Bytes that are read as these frames, each as long as it is written. -/
inductive DecE : List Int → List Fr → Prop
  | nil : DecE [] []
  | cons {l l1 : List Int} {f : Fr} {fs : List Fr} : decF l = .inl (f, l1) → (encF f).2 = 0 → l.length = (encF f).1.length + l1.length → DecE l1 fs → DecE l (f :: fs)

theorem decE_chunks : ∀ (s : Nat) (l : List Int) (fs : List Fr), l.head? ≠ some 0 → DecE l fs → DecE (List.replicate s 0 ++ l) (chunks s ++ fs) := by
  intro s
  induction s using Nat.strongRecOn with
  | _ s ih =>
    intro l fs hl hd
    by_cases h0 : s = 0
    · subst h0; rw [chunks_zero]; simpa using hd
    · rw [chunks_pos (by omega)]
      have pe := pad_enc (min s 65535) (by omega) (by omega)
      refine DecE.cons (dec_pad s l (by omega) hl) (by rw [pe]) (by rw [pe]; simp; omega) (ih (s - min s 65535) (by omega) l fs hl hd)

theorem decE_join : ∀ (L : List Fr) (b : List Int) (s : Nat), JoinOk L b → (∀ f ∈ L, (f.runs.length : Int) ≤ MAXN) → DecE (List.replicate s 0 ++ b) (mergeF s L) := by
  intro L
  induction L with
  | nil =>
    intro b s h _
    simp only [JoinOk] at h
    subst h
    have := decE_chunks s [] [] (by simp) DecE.nil
    simpa [mergeF] using this
  | cons f L ih =>
    intro b s h hm
    obtain ⟨n, rs, r, ht, htl, rfl, hr⟩ := h
    obtain ⟨r', e, h0, t0, k0⟩ := tell_head ht
    simp only [mergeF]
    by_cases hk : f.kind = 0
    · rw [if_pos hk]
      obtain ⟨eE, -, -⟩ := k0 hk
      rw [eE, ← List.append_assoc, List.replicate_append_replicate]
      exact ih r _ hr (fun g hg => hm g (List.mem_cons_of_mem _ hg))
    · rw [if_neg hk]
      have hd0 : (encL n ++ rs ++ r).head? ≠ some 0 := by
        rw [e]; intro hc; simp at hc; exact hk (t0 hc)
      refine decE_chunks s _ _ hd0 ?_
      have := ih r 0 hr (fun g hg => hm g (List.mem_cons_of_mem _ hg))
      have bk := back_pure ht (hm f (by simp)) r (fun hh => by
        have := htl hh
        subst this
        simpa [JoinOk] using hr) (fun hh => absurd hh hk)
      have eE : encF f = (encL n ++ rs, 0) := by unfold encF; rw [ht]
      exact DecE.cons bk (by rw [eE]) (by rw [eE]; simp; omega) (by simpa using this)

/-- What is left behind one frame. -/
def nextL (l : List Int) : List Int := match decF l with | .inl (_, l1) => l1 | .inr _ => []
def restAt (l : List Int) : Nat → List Int
  | 0 => l
  | i + 1 => restAt (nextL l) i
/-- The frames with their places. -/
def plD (N : Nat) : List Int → List Fr → List (Nat × Fr)
  | _, [] => []
  | l, f :: fs => (N - l.length, f) :: plD N (nextL l) fs
theorem plD_len (N : Nat) : ∀ (fs : List Fr) (l : List Int), (plD N l fs).length = fs.length := by
  intro fs
  induction fs with
  | nil => intro l; rfl
  | cons f fs ih => intro l; simp [plD, ih]
theorem plD_at (N : Nat) : ∀ (fs : List Fr) (l : List Int) (i : Nat) (f : Fr), fs[i]? = some f → (plD N l fs)[i]? = some (N - (restAt l i).length, f) := by
  intro fs
  induction fs with
  | nil => intro l i f h; simp at h
  | cons g fs ih =>
    intro l i f h
    cases i with
    | zero => simp at h; subst h; rfl
    | succ i => simp only [plD, List.getElem?_cons_succ] at h ⊢; exact ih _ i f h
theorem DecE.step {l : List Int} {fs : List Fr} (h : DecE l fs) : ∀ (i : Nat) (f : Fr), fs[i]? = some f → (encF f).2 = 0 ∧ (restAt l i).length = (encF f).1.length + (restAt l (i + 1)).length ∧ (restAt l i).length ≤ l.length := by
  induction h with
  | nil => intro i f hf; simp at hf
  | @cons l l1 f fs q1 q2 q3 q4 ih =>
    intro i g hg
    have nx : nextL l = l1 := by unfold nextL; rw [q1]
    cases i with
    | zero => simp at hg; subst hg; simp only [restAt, nx]; exact ⟨q2, q3, Nat.le_refl _⟩
    | succ i =>
      simp only [List.getElem?_cons_succ] at hg
      obtain ⟨a1, a2, a3⟩ := ih i g hg
      refine ⟨a1, ?_, ?_⟩
      · simp only [restAt, nx] at a2 ⊢; exact a2
      · simp only [restAt, nx]; omega
theorem DecE.end {l : List Int} {fs : List Fr} (h : DecE l fs) : restAt l fs.length = [] := by
  induction h with
  | nil => rfl
  | @cons l l1 f fs q1 q2 q3 q4 ih =>
    have nx : nextL l = l1 := by unfold nextL; rw [q1]
    simp only [List.length_cons, restAt, nx]; exact ih

theorem mem_chunks : ∀ (s : Nat) (f : Fr), f ∈ chunks s → ∃ k, f = padF k := by
  intro s
  induction s using Nat.strongRecOn with
  | _ s ih =>
    intro f hf
    by_cases h0 : s = 0
    · subst h0; rw [chunks_zero] at hf; cases hf
    · rw [chunks_pos (by omega)] at hf
      rcases List.mem_cons.1 hf with rfl | hf
      · exact ⟨_, rfl⟩
      · exact ih (s - min s 65535) (by omega) f hf
theorem mem_merge : ∀ (L : List Fr) (s : Nat) (f : Fr), f ∈ mergeF s L → f ∈ L ∨ ∃ k, f = padF k := by
  intro L
  induction L with
  | nil => intro s f hf; exact .inr (mem_chunks s f hf)
  | cons g L ih =>
    intro s f hf
    simp only [mergeF] at hf
    split at hf
    · exact (ih _ f hf).imp (List.mem_cons_of_mem _) id
    · rcases List.mem_append.1 hf with hf | hf
      · exact .inr (mem_chunks s f hf)
      · rcases List.mem_cons.1 hf with rfl | hf
        · exact .inl (by simp)
        · exact (ih _ f hf).imp (List.mem_cons_of_mem _) id
theorem merge_len : ∀ (L : List Fr) (s : Nat), (∀ f ∈ L, f.kind = 0 → f.size ≤ 65535) → (mergeF s L).length ≤ s + L.length * 65535 := by
  intro L
  induction L with
  | nil => intro s _; simpa [mergeF] using chunks_len s
  | cons g L ih =>
    intro s h
    have h' : ∀ f ∈ L, f.kind = 0 → f.size ≤ 65535 := fun f hf => h f (List.mem_cons_of_mem _ hf)
    simp only [mergeF]
    split
    · rename_i hk
      have := ih (s + g.size.toNat) h'
      have := h g (by simp) hk
      simp only [List.length_cons]
      omega
    · have := ih 0 h'
      have := chunks_len s
      simp only [List.length_append, List.length_cons]
      omega

/-- The bytes of what is joined. -/
theorem join_bytes : ∀ (L : List Fr) (b : List Int), JoinOk L b → (∀ f ∈ L, f.runs.length ≤ 1048576 ∧ f.data.length ≤ 1048576 ∧ Bs f.data) → Bs b ∧ b.length ≤ L.length * 18000000 ∧ (∀ f ∈ L, f.kind = 0 → 0 ≤ f.size ∧ f.size ≤ 65535) := by
  intro L
  induction L with
  | nil =>
    intro b h _
    simp only [JoinOk] at h
    subst h
    refine ⟨?_, ?_, ?_⟩
    · intro x hx; cases hx
    · simp
    · intro f hf; cases hf
  | cons f L ih =>
    intro b h hm
    obtain ⟨n, rs, r, ht, htl, rfl, hr⟩ := h
    obtain ⟨m1, m2, m3⟩ := hm f (by simp)
    obtain ⟨i1, i2, i3⟩ := ih r hr (fun g hg => hm g (List.mem_cons_of_mem _ hg))
    have tb := tell_bytes ht (by unfold MAXN; omega) m3
    have tl := tell_len18 ht m1 m2
    refine ⟨tb.app i1, ?_, ?_⟩
    · rw [List.length_append]; simp only [List.length_cons]; omega
    · intro g hg hk
      rcases List.mem_cons.1 hg with rfl | hg
      · obtain ⟨r', e, h0, t0, k0⟩ := tell_head ht
        obtain ⟨eE, ef, h0'⟩ := k0 hk
        refine ⟨by omega, ?_⟩
        -- how far a padding goes
        have hkk : isKindF g.kind = true := by
          unfold tellF at ht
          split at ht
          · assumption
          · cases ht
        unfold tellF at ht
        obtain ⟨bare, l, hs⟩ := type_some hkk
        rw [if_pos hkk, hs] at ht
        simp only at ht
        have hmay : mayF g bare l = true := by
          split at ht
          · assumption
          · cases ht
        have ty0 : typeF g = 0 := by unfold typeF; rw [if_neg (by omega), if_neg (by omega), if_neg (by omega), if_neg (by omega), hk]
        rw [ty0] at hs
        cases hs
        obtain ⟨⟨q1, -⟩, -⟩ := may_fields hmay
        have q1' : numb (g.size - 1) 65534 = true := q1
        simp only [numb, Bool.and_eq_true, decide_eq_true_eq] at q1'
        omega
      · exact i3 g hg hk
end Go.Proofs.Ytggjeamondampab
