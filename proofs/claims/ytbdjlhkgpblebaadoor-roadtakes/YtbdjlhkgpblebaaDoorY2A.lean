/- Road: what is under way, by lists. -/
import Derived.Test.YtbdjlhkgpblebaaDoorHY
namespace Go.Proofs.YtbdjlhkgpblebaaDoor
open Go.RowKit Go.Shelf Go.Maps
set_option linter.unusedVariables false
set_option linter.unusedSimpArgs false
set_option maxRecDepth 100000
set_option maxHeartbeats 1000000

theorem Wl.srt {B : Nat} {w : World} {S : Nat → Prop} {W c : Nat} {T : List Tm} (h : Wl B w S W c T) : T.Pairwise ltT := by
  obtain ⟨mb, L, h1, h2, h3⟩ := h.ex
  rw [← h2, List.pairwise_map]
  exact h1.srt
theorem Wl.c50 {B : Nat} {w : World} {S : Nat → Prop} {W c : Nat} {T : List Tm} (h : Wl B w S W c T) : c ≤ 2 ^ 50 := by
  obtain ⟨mb, L, h1, h2, h3⟩ := h.ex
  obtain ⟨fl, sl, sw⟩ := h1.sw
  exact sw.c50
theorem Wl.in_ {B : Nat} {w : World} {S : Nat → Prop} {W c : Nat} {T : List Tm} (h : Wl B w S W c T) : (∀ p ∈ T, p.1 < 4096 ∧ p.2 < 2 ^ 62) ∧ (T.map Prod.fst).Nodup ∧ T.length ≤ 4096 := by
  obtain ⟨mb, L, h1, h2, h3⟩ := h.ex
  obtain ⟨fl, sl, sw⟩ := h1.sw
  refine ⟨fun p hp => ?_, ?_, ?_⟩
  · rw [← h2] at hp
    obtain ⟨n, hn, rfl⟩ := List.mem_map.1 hp
    exact ⟨h1.idl n hn, sw.lt n hn⟩
  · rw [← h2, List.map_map]
    exact h1.ids
  · rw [← h2, List.length_map]
    exact h1.len

theorem adv_adv (c : Nat) (a b : Int) (hc : c ≤ 2 ^ 50) (h : a ≤ b) : adv (adv c a) b = adv c b ∧ adv c a ≤ adv c b ∧ adv c b ≤ 2 ^ 50 := by
  unfold adv; omega

/-- A datagram under way. -/
structure Gm where
  id : Nat
  to : Int
  at_ : Nat
  tx : List Int
  mark : Int
  deriving DecidableEq
instance : Inhabited Gm := ⟨⟨0, 0, 0, [], 0⟩⟩
def Gm.cs (g : Gm) : Array Value := #[.int .i64 (g.id : Int), .int .i64 g.to, .int .i64 (g.at_ : Int), .string (strOfNums g.tx), .int .i64 g.mark]
structure Gm.Ok (g : Gm) : Prop where
  b : ∀ x ∈ g.tx, IsB x
  l : g.tx.length ≤ 9000
  t : g.at_ < 4611686018427387904
def zGm : Gm := ⟨0, 0, 0, [], 0⟩
def ltG (a b : Gm) : Prop := a.at_ < b.at_ ∨ (a.at_ = b.at_ ∧ a.id < b.id)
instance (a b : Gm) : Decidable (ltG a b) := by unfold ltG; infer_instance
theorem ltG_irr (a : Gm) : ¬ ltG a a := by unfold ltG; omega
theorem ltG_trans {a b c : Gm} (h : ltG a b) (k : ltG b c) : ltG a c := by unfold ltG at *; omega

/-- Lists that are sorted and hold the same are the same. -/
theorem sortG_eq : ∀ (A B : List Gm), A.Perm B → A.Pairwise ltG → B.Pairwise ltG → A = B
  | [], B, p, _, _ => by rw [List.nil_perm.1 p]
  | a :: A, [], p, _, _ => by cases List.perm_nil.1 p
  | a :: A, b :: B, p, ha, hb => by
    rw [List.pairwise_cons] at ha hb
    have e : a = b := by
      rcases List.mem_cons.1 (p.mem_iff.1 (List.mem_cons_self ..)) with h | h
      · exact h
      · rcases List.mem_cons.1 (p.mem_iff.2 (List.mem_cons_self (a := b) (l := B))) with h2 | h2
        · exact h2.symm
        · exact absurd (ltG_trans (ha.1 b h2) (hb.1 a h)) (ltG_irr a)
    subst e
    rw [sortG_eq A B (List.Perm.cons_inv p) ha.2 hb.2]

/-- A road as one sees it: its clock, its span, the next number, what is under way by number. -/
structure Rs where
  now : Nat
  sp : Nat
  nx : Nat
  B : List Gm
def passS (R : Rs) (now : Int) : Rs := { R with now := adv R.now now }
def layS (R : Rs) (g : Gm) : Rs := if R.B.length = 4096 then R else { R with nx := R.nx + 1, B := R.B ++ [{ g with id := R.nx }] }
def layN (R : Rs) : Int := if R.B.length = 4096 then 0 else (R.nx : Int)
def layE (R : Rs) : Int := if R.B.length = 4096 then 3 else 0
def isEndT (t : Int) : Prop := t = 0 ∨ t = 1
instance (t : Int) : Decidable (isEndT t) := by unfold isEndT; infer_instance
def isMarkT (m : Int) : Prop := m = 0 ∨ m = 1 ∨ m = 2
instance (t : Int) : Decidable (isMarkT t) := by unfold isMarkT; infer_instance
/-- What Put leaves, answers, tells. -/
def putE (R : Rs) (to mark : Int) (n : Nat) : Int := if ¬ (isEndT to ∧ isMarkT mark) then 1 else if 9000 < n then 2 else layE R
def putN (R : Rs) (to mark : Int) (n : Nat) : Int := if ¬ (isEndT to ∧ isMarkT mark) then 0 else if 9000 < n then 0 else layN R
def putS (R : Rs) (now : Int) (to : Int) (tx : List Int) (mark : Int) : Rs :=
  if ¬ (isEndT to ∧ isMarkT mark) then passS R now else if 9000 < tx.length then passS R now else layS (passS R now) ⟨0, to, (passS R now).now + R.sp, tx, mark⟩
def hasB (R : Rs) (id : Int) : Bool := R.B.any fun g => decide ((g.id : Int) = id)
def atOk (a : Int) : Prop := 0 ≤ a ∧ a < 4611686018427387904
instance (a : Int) : Decidable (atOk a) := by unfold atOk; infer_instance
def loseS (R : Rs) (id : Int) : Rs := { R with B := R.B.filter fun g => decide ((g.id : Int) ≠ id) }
def delayS (R : Rs) (id a : Int) : Rs := if atOk a then { R with B := R.B.map fun g => if (g.id : Int) = id then { g with at_ := a.toNat } else g } else R
def delayE (R : Rs) (id a : Int) : Int := if hasB R id = false then 4 else if atOk a then 0 else 1
def dueB (B : List Gm) (t : Nat) : List Gm := B.filter fun g => !decide (t < g.at_)
def lateB (B : List Gm) (t : Nat) : List Gm := B.filter fun g => decide (t < g.at_)
def takeS (R : Rs) (now : Int) : Rs := { passS R now with B := lateB R.B (adv R.now now) }
def nextB (B : List Gm) : Nat := B.foldl (fun m g => min m g.at_) 4611686018427387904

/-- What Take tells. -/
structure Told (B : List Gm) (t : Nat) (P : List Gm) : Prop where
  p : P.Perm (dueB B t)
  s : P.Pairwise ltG

theorem told_eq {B : List Gm} {t : Nat} {P Q : List Gm} (h : Told B t P) (k : Told B t Q) : P = Q := sortG_eq P Q (h.p.trans k.p.symm) h.s k.s
theorem lateB_lateB (B : List Gm) (s t : Nat) (h : s ≤ t) : lateB (lateB B s) t = lateB B t := by
  unfold lateB
  rw [List.filter_filter]
  apply List.filter_congr
  intro g _
  by_cases c : t < g.at_
  · have : s < g.at_ := by omega
    simp [c, this]
  · simp [c]
theorem due_part (B : List Gm) (s t : Nat) (h : s ≤ t) : (dueB B s ++ dueB (lateB B s) t).Perm (dueB B t) := by
  have d1 : ∀ (g : Gm) (B : List Gm) (x : Nat), dueB (g :: B) x = if x < g.at_ then dueB B x else g :: dueB B x := by
    intro g B x; unfold dueB; by_cases c : x < g.at_ <;> simp [List.filter_cons, c]
  have l1 : ∀ (g : Gm) (B : List Gm) (x : Nat), lateB (g :: B) x = if x < g.at_ then g :: lateB B x else lateB B x := by
    intro g B x; unfold lateB; by_cases c : x < g.at_ <;> simp [List.filter_cons, c]
  induction B with
  | nil => exact List.Perm.refl _
  | cons g B ih =>
    rw [d1, l1, d1 g B t]
    by_cases c1 : s < g.at_
    · rw [if_pos c1, if_pos c1, d1]
      by_cases c2 : t < g.at_
      · rw [if_pos c2, if_pos c2]; exact ih
      · rw [if_neg c2, if_neg c2]; exact List.perm_middle.trans (ih.cons g)
    · have c2 : ¬ t < g.at_ := by omega
      rw [if_neg c1, if_neg c1, if_neg c2]
      exact ih.cons g
/-- In two steps as in one. -/
theorem told_split {B : List Gm} {s t : Nat} {P Q : List Gm} (h : s ≤ t) (a : Told B s P) (b : Told (lateB B s) t Q) : Told B t (P ++ Q) := by
  refine ⟨(a.p.append b.p).trans (due_part B s t h), ?_⟩
  rw [List.pairwise_append]
  refine ⟨a.s, b.s, fun x hx y hy => ?_⟩
  have h1 := a.p.mem_iff.1 hx
  have h2 := b.p.mem_iff.1 hy
  unfold dueB lateB at *
  simp only [List.mem_filter, Bool.not_eq_eq_eq_not, Bool.not_true, decide_eq_false_iff_not, decide_eq_true_eq] at h1 h2
  unfold ltG; omega
end Go.Proofs.YtbdjlhkgpblebaaDoor
