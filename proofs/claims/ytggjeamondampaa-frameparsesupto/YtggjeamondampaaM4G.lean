/- F1W, F2A, F2B, F2F, one text. -/
import Derived.Test.YtggjeamondampaaM4F
import Derived.Test.YtggjeamondampaaM4D
import Derived.Test.YtggjeamondampaaM4A
import Derived.Test.YtggjeamondampaaM4B
import Derived.Laws.Rows
import Derived.Great.BuildSlice
import Derived.Deep.RegionHeld3
import Derived.Deep.RegionHeld
import Derived.OrdersHeld
namespace Go.Proofs.Ytggjeamondampaa
open Go.RowKit
set_option linter.unusedVariables false
set_option linter.unusedSimpArgs false
set_option maxRecDepth 100000
set_option maxHeartbeats 4000000

theorem encode_folded (f : Fr) (d r : Value) (w : World) (hF : FrIn w f d r) (hD : TS w d f.data) (hk : -9223372036854775808 ≤ f.kind ∧ f.kind ≤ 9223372036854775807) (hrl : f.runs.length * 16 ≤ 140737488351232) (hdl : f.data.length ≤ 140737488351232) :
    Calls Try.prog 12 #[f.val d r] w fun e w' => ∃ a c, e = .returned (.tuple #[.slice a (encF f).1.length c, .int .i64 (encF f).2]) ∧ OwnB w.heap.size w' (.slice a (encF f).1.length c) (encF f).1 ∧ w.grownBy w' none := by
  refine (encode_any f d r w hF hD hk hrl hdl).mono ?_
  rintro e w' ⟨v, rfl, o, g⟩
  obtain ⟨a, c, rfl⟩ := o.shape
  exact ⟨a, c, rfl, o, g⟩

/-- The bytes that are written are bytes. -/
theorem tell_bytes {f : Fr} {n rs : List Int} (ht : tellF f = .inl (n, rs)) (hrl : (f.runs.length : Int) ≤ MAXN) (hb : Bs f.data) : Bs (encL n ++ rs) := by
  obtain ⟨t1, t2, t3, t4⟩ := tell_ok ht hrl
  refine (encL_bytes t1).app ?_
  unfold tellF at ht
  by_cases hkk : isKindF f.kind = true
  · obtain ⟨bare, p, hs⟩ := type_some hkk
    rw [if_pos hkk, hs] at ht
    simp only at ht
    split at ht
    · simp only [Sum.inl.injEq, Prod.mk.injEq] at ht
      rw [← ht.2]
      unfold restF
      split
      · intro x hx; rw [List.mem_replicate] at hx; rw [hx.2]; exact ⟨by omega, by omega⟩
      · exact hb
    · cases ht
  · rw [if_neg hkk] at ht; cases ht
theorem tell_len {f : Fr} {n rs : List Int} (ht : tellF f = .inl (n, rs)) (hr : f.runs.length ≤ 1048576) (hd : f.data.length ≤ 1048576) : (encL n ++ rs).length ≤ 100000000 := by
  obtain ⟨t1, t2, t3, t4⟩ := tell_ok ht (by unfold MAXN; omega)
  have := encL_le n
  rw [List.length_append]
  rcases t3 with e | ⟨e, -⟩
  · rw [e]; omega
  · omega
end Go.Proofs.Ytggjeamondampaa

namespace Go.Proofs.Ytggjeamondampaa
open Go.RowKit
set_option linter.unusedVariables false
set_option linter.unusedSimpArgs false
set_option maxRecDepth 100000
set_option maxHeartbeats 1000000

/-- Bytes that are read as these frames, one behind the other, each with the place behind it told by what is left. -/
inductive Decs : List Int → List Fr → Prop
  | nil : Decs [] []
  | cons {l l1 : List Int} {f : Fr} {fs : List Fr} : decF l = .inl (f, l1) → l1.length < l.length → l1 = l.drop (l.length - l1.length) → Decs l1 fs → Decs l (f :: fs)

def padF (n : Nat) : Fr := { Fr.zero with size := (n : Int) }
/-- So many bytes of padding, as frames. -/
def chunks (s : Nat) : List Fr := if s = 0 then [] else padF (min s 65535) :: chunks (s - min s 65535)
  termination_by s
  decreasing_by omega
theorem chunks_zero : chunks 0 = [] := by unfold chunks; rfl
theorem chunks_pos {s : Nat} (h : 0 < s) : chunks s = padF (min s 65535) :: chunks (s - min s 65535) := by
  rw [chunks, if_neg (by omega)]

def mergeF (s : Nat) : List Fr → List Fr
  | [] => chunks s
  | f :: L => if f.kind = 0 then mergeF (s + f.size.toNat) L else chunks s ++ f :: mergeF 0 L

theorem zrs_min (n m : Nat) (l : List Int) (hl : l.head? ≠ some 0) : zrs m (List.replicate n 0 ++ l) = min n m := by
  induction n generalizing m with
  | zero =>
    cases m with
    | zero => rfl
    | succ m =>
      cases l with
      | nil => rfl
      | cons x r => simp only [List.replicate_zero, List.nil_append, zrs]; rw [if_neg (by simpa using hl)]; omega
  | succ n ih =>
    cases m with
    | zero => simp [zrs]
    | succ m => simp only [List.replicate_succ, List.cons_append, zrs, if_true]; rw [ih m]; omega

theorem dec_pad (s : Nat) (l : List Int) (hs : 0 < s) (hl : l.head? ≠ some 0) : decF (List.replicate s 0 ++ l) = .inl (padF (min s 65535), List.replicate (s - min s 65535) 0 ++ l) := by
  obtain ⟨s, rfl⟩ := Nat.exists_eq_succ_of_ne_zero (by omega : s ≠ 0)
  simp only [List.replicate_succ, List.cons_append]
  have e1 : numF (0 :: (List.replicate s 0 ++ l)) = some (0, List.replicate s 0 ++ l) := by
    rw [numF_cons, if_neg (by simp [sz])]
    simp [sz, joinF]
  unfold decF
  rw [e1]
  simp only
  have e2 : shapeF 0 = some ({ Fr.zero with kind := 0 }, 14, 0, 0, 0) := rfl
  rw [e2]
  simp only
  rw [if_neg (by simp [sizeF]; omega)]
  have e3 : readPs (14, 0, 0, 0) { Fr.zero with kind := 0 } (List.replicate s 0 ++ l) = .inl ({ Fr.zero with kind := 0, size := (zrs 65534 (List.replicate s 0 ++ l) : Int) + 1 }, (List.replicate s 0 ++ l).drop (zrs 65534 (List.replicate s 0 ++ l))) := rfl
  rw [e3, zrs_min s 65534 l hl]
  have e4 : min (s + 1) 65535 = min s 65534 + 1 := by omega
  rw [e4]
  congr 1
  refine Prod.ext ?_ ?_
  · simp [padF, Fr.zero]
  · show (List.replicate s 0 ++ l).drop (min s 65534) = _
    rw [List.drop_append_of_le_length (by simp; omega), List.drop_replicate]
    congr 2
    omega

theorem decs_chunks : ∀ (s : Nat) (l : List Int) (fs : List Fr), l.head? ≠ some 0 → Decs l fs → Decs (List.replicate s 0 ++ l) (chunks s ++ fs) := by
  intro s
  induction s using Nat.strongRecOn with
  | _ s ih =>
    intro l fs hl hd
    by_cases h0 : s = 0
    · subst h0; rw [chunks_zero]; simpa using hd
    · rw [chunks_pos (by omega)]
      refine Decs.cons (dec_pad s l (by omega) hl) (by simp; omega) ?_ (ih (s - min s 65535) (by omega) l fs hl hd)
      have e : (List.replicate s 0 ++ l).length - (List.replicate (s - min s 65535) 0 ++ l).length = min s 65535 := by simp; omega
      rw [e, List.drop_append_of_le_length (by simp; omega), List.drop_replicate]

/-- What is written of a frame begins with its type. -/
theorem tell_head {f : Fr} {n rs : List Int} (h : tellF f = .inl (n, rs)) : ∃ r, encL n ++ rs = typeF f :: r ∧ 0 ≤ typeF f ∧ (typeF f = 0 → f.kind = 0) ∧ (f.kind = 0 → encL n ++ rs = List.replicate f.size.toNat 0 ∧ f = padF f.size.toNat ∧ 0 < f.size) := by
  unfold tellF at h
  by_cases hk : isKindF f.kind = true
  · obtain ⟨bare, l, hs⟩ := type_some hk
    rw [if_pos hk, hs] at h
    simp only at h
    by_cases hmay : mayF f bare l = true
    · rw [if_pos hmay] at h
      simp only [Sum.inl.injEq, Prod.mk.injEq] at h
      obtain ⟨rfl, rfl⟩ := h
      have tr := typeF_range hk
      have kd := kind_dom hk
      have t63 : typeF f ≤ 63 := by
        have b1 := one_bounds (decide (f.offset > 0)); have b2 := one_bounds (!f.tail); have b3 := one_bounds f.fin
        have b4 := one_bounds f.marks; have b5 := one_bounds f.uni; have b6 := one_bounds f.own
        unfold typeF; (repeat' split) <;> omega
      have t0 : typeF f = 0 → f.kind = 0 := by
        have b1 := one_bounds (decide (f.offset > 0)); have b2 := one_bounds (!f.tail); have b3 := one_bounds f.fin
        have b4 := one_bounds f.marks; have b5 := one_bounds f.uni; have b6 := one_bounds f.own
        unfold typeF; (repeat' split) <;> omega
      have eN : encN (typeF f) = [typeF f] := by
        have hsz : sizeF (typeF f) = 1 := by unfold sizeF; rw [if_pos (by omega)]
        unfold encN
        rw [hsz]
        simp [layF, dig, markF]
        omega
      refine ⟨encL (numsP f l.1 ++ numsP f l.2.1 ++ numsP f l.2.2.1 ++ numsP f l.2.2.2) ++ restF f l.1 f.data, ?_, tr.1, t0, fun k0 => ?_⟩
      · simp only [encL, List.flatMap_cons, eN]
        rfl
      · have ty0 : typeF f = 0 := by unfold typeF; rw [if_neg (by omega), if_neg (by omega), if_neg (by omega), if_neg (by omega), k0]
        have hs' := hs
        rw [ty0] at hs'
        cases hs'
        have gb := give_back (k := 0) rfl (by rw [k0]) hmay
        obtain ⟨⟨q1, -⟩, -⟩ := may_fields hmay
        have q1' : numb (f.size - 1) 65534 = true := q1
        simp only [numb, Bool.and_eq_true, decide_eq_true_eq] at q1'
        have ef : f = padF f.size.toNat := by
          have : givePs { Fr.zero with kind := 0 } f (14, 0, 0, 0) = { Fr.zero with kind := 0, size := f.size } := rfl
          rw [this] at gb
          rw [← gb]
          simp [padF, Fr.zero]
          omega
        refine ⟨?_, ef, by omega⟩
        simp only [encL, List.flatMap_cons, eN, ty0]
        have e1 : (numsP f 14 ++ numsP f 0 ++ numsP f 0 ++ numsP f 0) = [] := rfl
        rw [e1]
        have e2 : restF f 14 f.data = List.replicate (f.size - 1).toNat 0 := rfl
        rw [e2]
        have e3 : f.size.toNat = (f.size - 1).toNat + 1 := by omega
        rw [e3, List.replicate_succ]
        rfl
    · rw [if_neg hmay] at h; cases h
  · rw [if_neg hk] at h; cases h

/-- The bytes of frames, one behind the other; none if one may not be, or a tail is not the last. -/
def JoinOk : List Fr → List Int → Prop
  | [], b => b = []
  | f :: L, b => ∃ n rs r, tellF f = .inl (n, rs) ∧ (f.tail = true → L = []) ∧ b = encL n ++ rs ++ r ∧ JoinOk L r

theorem join_head : ∀ {L : List Fr} {b : List Int}, JoinOk L b → (∀ f, L.head? = some f → f.kind ≠ 0) → b.head? ≠ some 0 := by
  intro L b h hh
  cases L with
  | nil => simp only [JoinOk] at h; subst h; simp
  | cons f L =>
    obtain ⟨n, rs, r, ht, -, rfl, -⟩ := h
    obtain ⟨r', e, -, t0, -⟩ := tell_head ht
    rw [e]
    intro hc
    simp at hc
    exact hh f rfl (t0 hc)

theorem decs_join : ∀ (L : List Fr) (b : List Int) (s : Nat), JoinOk L b → (∀ f ∈ L, (f.runs.length : Int) ≤ MAXN) → Decs (List.replicate s 0 ++ b) (mergeF s L) := by
  intro L
  induction L with
  | nil =>
    intro b s h _
    simp only [JoinOk] at h
    subst h
    have := decs_chunks s [] [] (by simp) Decs.nil
    simpa [mergeF] using this
  | cons f L ih =>
    intro b s h hm
    obtain ⟨n, rs, r, ht, htl, rfl, hr⟩ := h
    obtain ⟨r', e, h0, t0, k0⟩ := tell_head ht
    simp only [mergeF]
    by_cases hk : f.kind = 0
    · rw [if_pos hk]
      obtain ⟨eE, -, -⟩ := k0 hk
      rw [eE, ← List.append_assoc, List.replicate_append_replicate]
      exact ih r _ hr (fun g hg => hm g (List.mem_cons_of_mem _ hg))
    · rw [if_neg hk]
      have hd0 : (encL n ++ rs ++ r).head? ≠ some 0 := by
        rw [e]; intro hc; simp at hc; exact hk (t0 hc)
      refine decs_chunks s _ _ hd0 ?_
      have := ih r 0 hr (fun g hg => hm g (List.mem_cons_of_mem _ hg))
      have bk := back_pure ht (hm f (by simp)) r (fun hh => by
        have := htl hh
        subst this
        simpa [JoinOk] using hr) (fun hh => absurd hh hk)
      refine Decs.cons bk ?_ ?_ (by simpa using this)
      · rw [e]; simp
        omega
      · have e5 : (encL n ++ rs ++ r).length - r.length = (encL n ++ rs).length := by simp; omega
        rw [e5, List.drop_left]
end Go.Proofs.Ytggjeamondampaa

namespace Go.Proofs.Ytggjeamondampaa
open Go.RowKit
set_option linter.unusedVariables false
set_option linter.unusedSimpArgs false
set_option maxRecDepth 100000
set_option maxHeartbeats 1000000

/-- A frame with its two lists. -/
structure FV where
  f : Fr
  d : Value
  r : Value
abbrev FV.C (x : FV) : Array Value := x.f.cs x.d x.r
def fv0 : FV := ⟨Fr.zero, nilS, nilS⟩
theorem FV.size (x : FV) : x.C.size = 17 := rfl
def clF (L : List FV) : List Value := L.flatMap fun x => x.C.toList
theorem clF_length (L : List FV) : (clF L).length = L.length * 17 := by
  induction L with
  | nil => rfl
  | cons x L ih =>
    have : clF (x :: L) = x.C.toList ++ clF L := by simp [clF]
    rw [this, List.length_append, ih]
    simp [FV.C]
    omega
theorem clF_get (L : List FV) (i j : Nat) (hi : i < L.length) (hj : j < 17) : (clF L)[i * 17 + j]? = (L.getD i fv0).C[j]? := by
  induction L generalizing i with
  | nil => simp at hi
  | cons x L ih =>
    have e : clF (x :: L) = x.C.toList ++ clF L := by simp [clF]
    have hx : x.C.toList.length = 17 := rfl
    rw [e]
    cases i with
    | zero =>
      rw [List.getElem?_append_left (by omega)]
      simp [List.getD]
    | succ i =>
      rw [List.getElem?_append_right (by omega), hx, show (i + 1) * 17 + j - 17 = i * 17 + j by omega, ih i (by simpa using hi)]
      simp [List.getD]

/-- A frame whose lists can be read, each in an old block, or in one of its own kind. -/
structure FrT (B : Nat) (w : World) (f : Fr) (d r : Value) : Prop where
  rd : FrR w f d r
  data : ∀ x n c, d = .slice (some x) n c → f.data ≠ [] → x.block < B ∨ ∃ cs, w.heap[x.block]? = some (.cells cs 5 (0, 0))
  runs : ∀ x n c, r = .slice (some x) n c → f.runs ≠ [] → x.block < B ∨ ∃ cs, w.heap[x.block]? = some (.cells cs 81 (0, 0))
/-- A row of frames grows: what hangs on frames stays. -/
theorem FrT.keep {B : Nat} {w W : World} {f : Fr} {d r : Value} {k : Option Nat} (h : FrT B w f d r) (g : w.grownBy W k) (hk : ∀ b, k = some b → B ≤ b ∧ ∃ cs, w.heap[b]? = some (.cells cs 26 (0, 0))) (hB : B ≤ w.heap.size) : FrT B W f d r := by
  have ne : ∀ (t : TypeId) (b : Nat), t ≠ 26 → (b < B ∨ ∃ cs, w.heap[b]? = some (.cells cs t (0, 0))) → some b ≠ k := fun t b ht hb e => by
    obtain ⟨h1, cs, h2⟩ := hk b e.symm
    rcases hb with hb | ⟨cs', hb⟩
    · omega
    · rw [h2] at hb; injection hb with hb; injection hb with _ hb; exact ht hb.symm
  have kp : ∀ (t : TypeId) (b : Nat), t ≠ 26 → (b < B ∨ ∃ cs, w.heap[b]? = some (.cells cs t (0, 0))) → (b < B ∨ ∃ cs, W.heap[b]? = some (.cells cs t (0, 0))) := fun t b ht hb => by
    have hn := ne t b ht hb
    rcases hb with hb' | ⟨cs, hb'⟩
    · exact .inl hb'
    · exact .inr ⟨cs, (g.block b (Array.getElem?_eq_some_iff.1 hb').1 hn).trans hb'⟩
  obtain ⟨a1, c1, rfl, r1, l1, l2⟩ := h.rd.data
  obtain ⟨a2, c2, rfl, r2, l3, l4⟩ := h.rd.runs
  refine ⟨⟨⟨a1, c1, rfl, ⟨r1.1, fun hne => ?_⟩, l1, l2⟩, ⟨a2, c2, rfl, fun hne => ?_, l3, l4⟩⟩, fun x n c e hne => ?_, fun x n c e hne => ?_⟩
  · obtain ⟨b, off, rfl, hc⟩ := r1.2 hne
    exact ⟨b, off, rfl, fun i hi => g.cell (hc i hi) (ne 5 b (by decide) (h.data _ _ _ rfl hne))⟩
  · obtain ⟨b, off, rfl, hc⟩ := r2 hne
    have hn := ne 81 b (by decide) (h.runs _ _ _ rfl hne)
    exact ⟨b, off, rfl, fun i hi => ⟨g.cell (hc i hi).1 hn, g.cell (hc i hi).2 hn⟩⟩
  · injection e with e; subst e
    exact kp 5 _ (by decide) (h.data _ _ _ rfl hne)
  · injection e with e; subst e
    exact kp 81 _ (by decide) (h.runs _ _ _ rfl hne)
theorem FrT.keepN {B : Nat} {w W : World} {f : Fr} {d r : Value} (h : FrT B w f d r) (g : w.grownBy W none) (hB : B ≤ w.heap.size) : FrT B W f d r := h.keep g (fun b e => by cases e) hB
theorem cell_lt' {w : World} {b o : Nat} {v : Value} (h : w.cell? ⟨b, o, none⟩ = some v) : b < w.heap.size := by
  by_cases c : b < w.heap.size
  · exact c
  · have e : w.heap[b]? = none := by simp; omega
    simp [World.cell?, e] at h
/-- What came in lies in old blocks. -/
theorem FrT.old {w : World} {f : Fr} {d r : Value} (h : FrR w f d r) : FrT w.heap.size w f d r := by
  obtain ⟨a1, c1, rfl, r1, l1, l2⟩ := h.data
  obtain ⟨a2, c2, rfl, r2, l3, l4⟩ := h.runs
  refine ⟨h, fun x n c e hne => .inl ?_, fun x n c e hne => .inl ?_⟩
  · obtain ⟨b, off, e', hc⟩ := r1.2 hne
    injection e with e; subst e; cases e'
    exact cell_lt' (hc 0 (List.length_pos_iff.2 hne))
  · obtain ⟨b, off, e', hc⟩ := r2 hne
    injection e with e; subst e; cases e'
    exact cell_lt' (hc 0 (List.length_pos_iff.2 hne)).1
theorem FrT.own {B base : Nat} {w : World} {f : Fr} {d r : Value} (h : OwnB base w d f.data) (hr : OwnR base w r f.runs) (hb : ∀ x ∈ f.data, IsB x) : FrT B w f d r := by
  refine ⟨FrR.own h hr hb, fun x n c e hne => .inr ?_, fun x n c e hne => .inr ?_⟩
  · rcases h.2 with ⟨e1, -⟩ | ⟨g, c', cur, e1, q1, q2, -⟩
    · rw [e1] at e; cases e
    · rw [e1] at e; cases e; exact ⟨cur, q2⟩
  · rcases hr.2 with ⟨e1, -⟩ | ⟨g, c', cur, e1, q1, q2, -⟩
    · rw [e1] at e; cases e
    · rw [e1] at e; cases e; exact ⟨cur, q2⟩
theorem FrT.zero (B : Nat) (w : World) (f : Fr) (h1 : f.data = []) (h2 : f.runs = []) : FrT B w f nilS nilS := ⟨⟨⟨none, 0, by rw [h1]; rfl, by rw [h1]; exact ⟨by simp, fun h => absurd rfl h⟩, by rw [h1]; exact Nat.le_refl _, by omega⟩, ⟨none, 0, by rw [h2]; rfl, by rw [h2]; exact fun h => absurd rfl h, by rw [h2]; exact Nat.le_refl _, by omega⟩⟩, (fun x n c e => by cases e), (fun x n c e => by cases e)⟩

/-- Frames that can be read. -/
structure RdF (w : World) (a : Option Addr) (L : List FV) : Prop where
  each : ∀ x ∈ L, FrR w x.f x.d x.r
  cells : L ≠ [] → ∃ b off, a = some ⟨b, off, none⟩ ∧ ∀ i, i < L.length → ∀ j v, (L.getD i fv0).C[j]? = some v → w.cell? ⟨b, off + i * 17 + j, none⟩ = some v
theorem RdF.grow {w W : World} {a : Option Addr} {L : List FV} (h : RdF w a L) (g : w.grownBy W none) : RdF W a L :=
  ⟨fun x hx => (h.each x hx).keep g, fun hne => by
    obtain ⟨b, off, e, hc⟩ := h.cells hne
    exact ⟨b, off, e, fun i hi j v hv => cell_grown (hc i hi j v hv) g⟩⟩
/-- Frames in a row that a call made. -/
structure OwnF (base : Nat) (w : World) (v : Value) (L : List FV) : Prop where
  row : w.ownsRow base 26 17 v L.length (clF L)
  each : ∀ x ∈ L, FrT base w x.f x.d x.r
theorem OwnF.nil (base : Nat) (w : World) : OwnF base w nilS [] := ⟨World.ownsRow_nil _ _ _ _, fun x hx => by cases hx⟩
theorem OwnF.shape {base : Nat} {w : World} {v : Value} {L : List FV} (h : OwnF base w v L) : ∃ a c, v = .slice a L.length c ∧ L.length ≤ c ∧ c ≤ 9223372036854775807 := by
  rcases h.row.2 with ⟨e1, e2⟩ | ⟨g, c', cur, e1, q1, q2, q3, q4, q5, q6⟩
  · exact ⟨none, 0, by rw [e1, e2], by omega, by omega⟩
  · unfold maxLen at q4; exact ⟨_, _, e1, q3, by omega⟩
theorem OwnF.keepN {base : Nat} {w w' : World} {v : Value} {L : List FV} (h : OwnF base w v L) (g : w.grownBy w' none) (hb : base ≤ w.heap.size) : OwnF base w' v L := ⟨World.ownsRow.kept h.row g (by cases v.ownBlock <;> simp), fun x hx => (h.each x hx).keepN g hb⟩
theorem OwnF.blk {base : Nat} {w : World} {v : Value} {L : List FV} (h : OwnF base w v L) : ∀ k, v.ownBlock = some k → base ≤ k ∧ ∃ cs, w.heap[k]? = some (.cells cs 26 (0, 0)) := fun k hk => by
  rcases h.row.2 with ⟨rfl, -⟩ | ⟨b, c, cur, rfl, q1, q2, -⟩
  · cases hk
  · injection hk with hk; exact hk ▸ ⟨q1, cur, q2⟩
theorem OwnF.rd {base : Nat} {w : World} {v : Value} {L : List FV} (h : OwnF base w v L) : ∃ a c, v = .slice a L.length c ∧ RdF w a L ∧ L.length ≤ c ∧ c ≤ 9223372036854775807 := by
  rcases h.row.2 with ⟨e1, e2⟩ | ⟨g, c', cur, e1, q1, q2, q3, q4, q5, q6⟩
  · exact ⟨none, 0, by rw [e1, e2], ⟨fun x hx => (h.each x hx).rd, fun hne => absurd (List.length_eq_zero_iff.1 e2) hne⟩, by omega, by omega⟩
  · unfold maxLen at q4
    refine ⟨_, c', e1, ⟨fun x hx => (h.each x hx).rd, fun _ => ⟨g, 0, rfl, fun i hi j v hv => ?_⟩⟩, q3, by omega⟩
    have hj : j < 17 := by have := (Array.getElem?_eq_some_iff.1 hv).1; simpa [FV.C] using this
    rw [Nat.zero_add]
    unfold World.cell?
    rw [q2]
    have h1 : (cur.toList.take (L.length * 17))[i * 17 + j]? = (clF L)[i * 17 + j]? := by rw [q6]
    rw [List.getElem?_take, if_pos (by omega), Array.getElem?_toList, clF_get L i j hi hj, hv] at h1
    exact h1

/-- One frame more, from a block of its own. -/
theorem app_frame {w0 W : World} {v : Value} {L : List FV} (x : FV) (h : OwnF w0.heap.size W v L) (hx : FrT w0.heap.size W x.f x.d x.r) (hg : w0.grownBy W none) (h1 : x.C.all (·.oneCell') = true) (hb : L.length ≤ 800000000000) :
    ∃ a' c' W', (∀ ty, (Builtin.append_ #[47, 47] ty #[v, .slice (some ⟨W.heap.size, 0, none⟩) 1 1]).run Try.prog (W.alloc (.cells x.C 26)) = .ok (.slice a' (L.length + 1) c') W') ∧ OwnF w0.heap.size W' (.slice a' (L.length + 1) c') (L ++ [x]) ∧ w0.grownBy W' none := by
  obtain ⟨i, hi, hz0, hz1, hz2⟩ := info_parts Try.infoF
  have gA := World.grownBy_alloc W (.cells x.C 26) none
  have hA := h.keepN gA hg.size
  obtain ⟨v', W', hr, ho, hgr, hnil⟩ := run_append_own (P := Try.prog) (W.alloc (.cells x.C 26)) w0.heap.size 47 47 26 i _ 17 160 Try.underlying47 hi hz0 hz1 hz2 rfl (by decide) v L.length (clF L) hA.row ⟨W.heap.size, 0, none⟩ 1 1 x.C.toList (by simp [FV.C]) (fun j u hj => by
    rw [addr_add, cell_of_row _ _ j x.C 26 (0, 0) (heap_alloc_new W _)]
    simpa using hj) (fun u hu => by
    rw [Array.all_eq_true] at h1
    obtain ⟨k, hk, rfl⟩ := List.mem_iff_getElem.1 hu
    have := h1 k (by simpa using hk)
    simpa using this) (by unfold maxLen; omega) (by omega) (Nat.le_trans hg.size gA.size)
  have e2 : clF (L ++ [x]) = clF L ++ x.C.toList := by simp [clF]
  have gT : w0.grownBy W' none := grown_own (hg.trans gA) hgr (fun k hk => (h.blk k hk).1)
  have hsz := Nat.le_trans hg.size gA.size
  have kp : ∀ y : FV, FrT w0.heap.size W y.f y.d y.r → FrT w0.heap.size W' y.f y.d y.r := fun y hy => (hy.keepN gA hg.size).keep hgr hA.blk hsz
  obtain ⟨a', c', rfl⟩ : ∃ a' c', v' = .slice a' (L.length + 1) c' := by
    rcases ho.2 with ⟨e1, e3⟩ | ⟨g', c', cur, e1, -⟩
    · omega
    · exact ⟨_, _, e1⟩
  refine ⟨a', c', W', fun _ => hr, ⟨by rw [List.length_append, e2]; exact ho, fun y hy => ?_⟩, gT⟩
  rcases List.mem_append.1 hy with hy | hy
  · exact kp y (h.each y hy)
  · obtain rfl := List.mem_singleton.1 hy; exact kp _ hx

/-- A list of one frame. -/
theorem wpList_one_frame {ops : Array Oper} {rest : List Oper} {o : Oper} {a : Act} {w : World} {Q : Exit → Act → World → Prop} (hg : o.guard = none) (x : Operand) (ho : o.op = .buildSlice 47 1 #[(0, x)]) (C : Array Value) (hx : a.eval x = .agg C) (h17 : C.size = 17)
    (h : wpList Try.prog ops Q rest (a.put o.dst (.slice (some ⟨w.heap.size, 0, none⟩) 1 1)) (w.alloc (.cells C 26))) : wpList Try.prog ops Q (o :: rest) a w := by
  obtain ⟨i, hi, hz0, hz1, hz2⟩ := info_parts Try.infoF
  refine wpList_buildSlice hg 47 26 1 #[(0, x)] ho C i _ Try.underlying47 hi hz0 (by rw [hz1]; decide) (by rw [hz1]; decide) ?_ h
  rw [hz1]
  have e1 : ((#[(0, x)] : Array (Nat × Operand)).map fun (i, x) => (i, a.eval x)).toList = [(0, a.eval x)] := by simp
  rw [e1, hx]
  have := Great.fill_whole (s := 17) (by decide) [.agg C] ((Array.range (1 * 17)).map ((Value.agg Z17).cells[· % (Value.agg Z17).cells.size]!)) (by simpa [Value.cells] using h17) (by simp)
  simpa [Value.cells] using this

/-- An element is loaded whole. -/
theorem wpList_load_at {ops : Array Oper} {rest : List Oper} {op : Oper} {a : Act} {w : World} {Q : Exit → Act → World → Prop} (hgd : op.guard = none) (x : Operand) (ho : op.op = .load 26 x) (b o : Nat) (C : Array Value)
    (hx : a.eval x = .pointer (some ⟨b, o, none⟩)) (h17 : C.size = 17) (hc : ∀ j v, C[j]? = some v → w.cell? ⟨b, o + j, none⟩ = some v)
    (h : wpList Try.prog ops Q rest (a.put op.dst (.agg C)) w) : wpList Try.prog ops Q (op :: rest) a w :=
  wpList_plain hgd fun _ hK => by
    unfold Oper.wp execOp
    simp only [ho, hx, Instr.loadAt, Instr.sureAddr, Sem.run_bind, Sem.run_pure, Result.andThen_ok, load_at h17 hc]
    exact hK _ _ h
end Go.Proofs.Ytggjeamondampaa

namespace Go.Proofs.Ytggjeamondampaa
open Go.RowKit
set_option linter.unusedVariables false
set_option linter.unusedSimpArgs false
set_option maxRecDepth 100000
set_option maxHeartbeats 4000000

theorem sameFrames_any (a a' : Option Addr) (c c' N : Nat) (L M : List FV) (w : World) (hN : L.length = N) (hE : L.map FV.f = M.map FV.f) (h : RdF w a L) (h' : RdF w a' M) (hc : N ≤ c ∧ c ≤ 9223372036854775807) (hc' : N ≤ c' ∧ c' ≤ 9223372036854775807) :
    Calls Try.prog 30 #[.slice a N c, .slice a' N c'] w fun e w' => e = .returned (.bool true) ∧ w.grownBy w' none := by
  have HH := hide h
  have HH' := hide h'
  have HN := hide hN
  have HE := hide hE
  clear h h' hN hE
  go_enter Try.func30, Try.ntmps30
  go_wp2
  go_loopw [5] (fun i wr => ∃ k : Nat, k ≤ N ∧ i = .int .i64 k ∧ Hid (w.grownBy wr none)) (fun i _ => N - (intOf i).toNat)
  case atStart => exact ⟨0, Nat.zero_le _, rfl, World.grownBy.refl w none⟩
  case round =>
    obtain ⟨k, hk, rfl, H⟩ := hrel
    by_cases hlt : k < N
    · have kI : (k : Int) < (N : Int) := by omega
      have hkL : k < L.length := by rw [unhide HN]; exact hlt
      have hl : L.length = M.length := by have := congrArg List.length (unhide HE); simpa using this
      have hkM : k < M.length := by omega
      obtain ⟨b, off, rfl, hcs⟩ := (unhide HH).cells (fun e => by rw [e] at hkL; simp at hkL)
      obtain ⟨b', off', rfl, hcs'⟩ := (unhide HH').cells (fun e => by rw [e] at hkM; simp at hkM)
      obtain ⟨C, hC⟩ : ∃ C, C = (L.getD k fv0).C := ⟨_, rfl⟩
      obtain ⟨C', hC'⟩ : ∃ C', C' = (M.getD k fv0).C := ⟨_, rfl⟩
      have ef : (L.getD k fv0).f = (M.getD k fv0).f := by
        have h1 : (L.map FV.f)[k]? = (M.map FV.f)[k]? := by rw [unhide HE]
        simp only [List.getElem?_map] at h1
        simp only [List.getD]
        rw [List.getElem?_eq_getElem hkL, List.getElem?_eq_getElem hkM] at h1 ⊢
        simpa using h1
      have C17 : C.size = 17 := by rw [hC]; rfl
      have C17' : C'.size = 17 := by rw [hC']; rfl
      have cl : ∀ W, wr.grownBy W none → ∀ j v, C[j]? = some v → W.cell? ⟨b, off + k * 17 + j, none⟩ = some v := fun W g j v hv => cell_grown (cell_grown (hcs k hkL j v (by rw [← hC]; exact hv)) (unhide H)) g
      have cl' : ∀ W, wr.grownBy W none → ∀ j v, C'[j]? = some v → W.cell? ⟨b', off' + k * 17 + j, none⟩ = some v := fun W g j v hv => cell_grown (cell_grown (hcs' k hkM j v (by rw [← hC']; exact hv)) (unhide H)) g
      have r1 := (unhide HH).each (L.getD k fv0) (by simp [List.getD, hkL])
      have r2 := (unhide HH').each (M.getD k fv0) (by simp [List.getD, hkM])
      have sm : Hid (∀ W, wr.grownBy W none → Calls Try.prog 25 #[.agg C, .agg C'] W fun e w' => e = .returned (.bool true) ∧ W.grownBy w' none) := fun W g => by
        have hh := same_fr (L.getD k fv0).f (L.getD k fv0).d (L.getD k fv0).r (M.getD k fv0).d (M.getD k fv0).r W ((r1.keep (unhide H)).keep g) (by rw [ef]; exact (r2.keep (unhide H)).keep g)
        rw [hC, hC']
        have e2 : (M.getD k fv0).C = (L.getD k fv0).f.cs (M.getD k fv0).d (M.getD k fv0).r := by rw [ef]
        rw [e2]
        exact hh
      have HLT := hide hlt
      clear hcs hcs' hC hC' ef r1 r2 hl hkL hkM hlt hk
      go_upto_region 6 with fail
      refine wp_region_held_drew (S := fun W => wr.grownBy W none) (by kernel_rfl) (drew_gr wr) (fun hHeld => ?_)
      refine wpAnyH_take (i := 0) (v := ?_) rfl (by as_aux_lemma => kernel_rfl) (by as_aux_lemma => kernel_rfl) (by as_aux_lemma => kernel_rfl) (fun _ _ _ h => h) (Or.inl ⟨by rfl, ?_⟩) (by assumption) ?_
      rotate_left
      · intro wH hSw
        try dsimp only at hSw
        go_simp
        try with_reducible rfl
      try simp only [Act.put, List.setIfInBounds_toArray, List.set_cons_zero, List.set_cons_succ]
      refine wpAnyH_take (i := 1) (v := ?_) rfl (by as_aux_lemma => kernel_rfl) (by as_aux_lemma => kernel_rfl) (by as_aux_lemma => kernel_rfl) (fun _ _ _ h => h) (Or.inl ⟨by rfl, ?_⟩) (by assumption) ?_
      rotate_left
      · intro wH hSw
        try dsimp only at hSw
        go_simp
        try with_reducible rfl
      try simp only [Act.put, List.setIfInBounds_toArray, List.set_cons_zero, List.set_cons_succ]
      refine wpAnyH_take (i := 2) (v := ?_) rfl (by as_aux_lemma => kernel_rfl) (by as_aux_lemma => kernel_rfl) (by as_aux_lemma => kernel_rfl) (fun _ _ _ h => h) (Or.inl ⟨by rfl, ?_⟩) (by assumption) ?_
      rotate_left
      · intro wH hSw
        try dsimp only at hSw
        go_simp
        try with_reducible rfl
      try simp only [Act.put, List.setIfInBounds_toArray, List.set_cons_zero, List.set_cons_succ]
      refine wpAnyH_take (i := 3) (v := .agg C) rfl (by as_aux_lemma => kernel_rfl) (by as_aux_lemma => kernel_rfl) (by as_aux_lemma => kernel_rfl) (fun _ _ _ h => h) (Or.inl ⟨by rfl, ?_⟩) (by assumption) ?_
      · intro wH hSw
        exact exec_load_at (x := .tmp 20) rfl rfl C17 (cl wH hSw)
      try simp only [Act.put, List.setIfInBounds_toArray, List.set_cons_zero, List.set_cons_succ]
      refine wpAnyH_take (i := 4) (v := ?_) rfl (by as_aux_lemma => kernel_rfl) (by as_aux_lemma => kernel_rfl) (by as_aux_lemma => kernel_rfl) (fun _ _ _ h => h) (Or.inl ⟨by rfl, ?_⟩) (by assumption) ?_
      rotate_left
      · intro wH hSw
        try dsimp only at hSw
        go_simp
        try with_reducible rfl
      try simp only [Act.put, List.setIfInBounds_toArray, List.set_cons_zero, List.set_cons_succ]
      refine wpAnyH_take (i := 5) (v := ?_) rfl (by as_aux_lemma => kernel_rfl) (by as_aux_lemma => kernel_rfl) (by as_aux_lemma => kernel_rfl) (fun _ _ _ h => h) (Or.inl ⟨by rfl, ?_⟩) (by assumption) ?_
      rotate_left
      · intro wH hSw
        try dsimp only at hSw
        go_simp
        try with_reducible rfl
      try simp only [Act.put, List.setIfInBounds_toArray, List.set_cons_zero, List.set_cons_succ]
      refine wpAnyH_take (i := 6) (v := ?_) rfl (by as_aux_lemma => kernel_rfl) (by as_aux_lemma => kernel_rfl) (by as_aux_lemma => kernel_rfl) (fun _ _ _ h => h) (Or.inl ⟨by rfl, ?_⟩) (by assumption) ?_
      rotate_left
      · intro wH hSw
        try dsimp only at hSw
        go_simp
        try with_reducible rfl
      try simp only [Act.put, List.setIfInBounds_toArray, List.set_cons_zero, List.set_cons_succ]
      refine wpAnyH_take (i := 7) (v := .agg C') rfl (by as_aux_lemma => kernel_rfl) (by as_aux_lemma => kernel_rfl) (by as_aux_lemma => kernel_rfl) (fun _ _ _ h => h) (Or.inl ⟨by rfl, ?_⟩) (by assumption) ?_
      · intro wH hSw
        exact exec_load_at (x := .tmp 24) rfl rfl C17' (cl' wH hSw)
      try simp only [Act.put, List.setIfInBounds_toArray, List.set_cons_zero, List.set_cons_succ]
      refine wpAnyH_ready (rs := [8]) (by as_aux_lemma => kernel_rfl) (by simp) ?_
      refine AllReadyH.cons rfl (fun KH hKH => ?_) AllReadyH.nil
      go_simp
      refine (unhide sm _ (drew_gr wr)).mono ?_
      rintro e W9 ⟨rfl, g9⟩
      refine hKH.out _ _ ((drew_gr wr).trans g9) (fun hHeld2 => ?_)
      clear hKH KH
      try simp only [Act.put, List.setIfInBounds_toArray, List.set_cons_zero, List.set_cons_succ]
      refine wpAnyH_ready (rs := [9]) (by as_aux_lemma => kernel_rfl) (by simp) ?_
      refine AllReadyH.cons rfl (fun KH hKH => ?_) AllReadyH.nil
      go_simp
      refine hKH.out _ _ ((drew_gr wr).trans g9) (fun hHeld3 => ?_)
      clear hKH KH
      try simp only [Act.put, List.setIfInBounds_toArray, List.set_cons_zero, List.set_cons_succ]
      refine wpAnyH_done (by as_aux_lemma => kernel_rfl) ?_ _
      have G9 := hide ((unhide H).trans ((drew_gr wr).trans g9))
      clear hHeld hHeld2 hHeld3 cl cl' sm g9
      go_wp2
      exact ⟨⟨k + 1, unhide HLT, by go_num, unhide G9⟩, by simp [intOf]; have := unhide HLT; omega⟩
    · obtain rfl : k = N := by omega
      have kI : ¬ (k : Int) < (k : Int) := by omega
      go_wp2
      go_ret
      exact ⟨rfl, unhide H⟩
end Go.Proofs.Ytggjeamondampaa
