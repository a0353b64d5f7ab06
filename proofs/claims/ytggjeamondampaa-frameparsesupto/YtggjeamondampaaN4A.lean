/- G5A, G5B, G5C, G5J, G5Q, G5O, one text. -/
import Derived.Test.YtggjeamondampaaFB
import Derived.Test.YtggjeamondampaaM4F
import Derived.Test.YtggjeamondampaaM4A
import Derived.Test.YtggjeamondampaaFJ
import Derived.Test.YtggjeamondampaaFY1
import Derived.Test.YtggjeamondampaaM4B
import Derived.Deep.DeepCutAuto
import Derived.WalkMore
namespace Go.Proofs.Ytggjeamondampaa
set_option linter.unusedVariables false
set_option maxRecDepth 100000

/-- The next number: it, where the reader stands behind it, what is wrong. -/
def rdN (l : List Int) (k : Nat) (e : Int) : Int × Nat × Int :=
  if e = 0 then match numF (l.drop k) with | none => (0, k, 40) | some (v, l1) => (v, l.length - l1.length, 0) else (0, k, e)
def mst (e : Int) (y : Bool) : Int := if e = 0 ∧ y = false then 42 else e
def byt (l : List Int) (k : Nat) (e n : Int) : List Int × Nat × Int :=
  if e = 0 then (if n > (l.length : Int) - k then ([], k, 40) else ((l.drop k).take n.toNat, k + n.toNat, 0)) else ([], k, e)

/-- What was read so far, as the frame's plain reading has it. -/
def St (l : List Int) (x : (Fr × List Int) ⊕ Int) (f : Fr) (k : Nat) (e : Int) : Prop := (e = 0 ∧ k ≤ l.length ∧ x = .inl (f, l.drop k)) ∨ (e ≠ 0 ∧ x = .inr e)
theorem St.start (l : List Int) (f : Fr) (k : Nat) (h : k ≤ l.length) : St l (.inl (f, l.drop k)) f k 0 := .inl ⟨rfl, h, rfl⟩
theorem St.ok {l : List Int} {x : (Fr × List Int) ⊕ Int} {f : Fr} {k : Nat} (h : St l x f k 0) : k ≤ l.length ∧ x = .inl (f, l.drop k) := by
  rcases h with ⟨-, h⟩ | ⟨h, -⟩
  · exact h
  · exact absurd rfl h
theorem St.bad {l : List Int} {x : (Fr × List Int) ⊕ Int} {f : Fr} {k : Nat} {e : Int} (h : St l x f k e) (he : e ≠ 0) : x = .inr e := by
  rcases h with ⟨h, -⟩ | ⟨-, h⟩
  · exact absurd h he
  · exact h
theorem St.err {l : List Int} {x : (Fr × List Int) ⊕ Int} {f f' : Fr} {k k' : Nat} {e : Int} (h : St l x f k e) (he : e ≠ 0) (g : Fr → List Int → (Fr × List Int) ⊕ Int) : St l (bind' x g) f' k' e := by
  rw [h.bad he]; exact .inr ⟨he, rfl⟩

theorem rdN_bad {l : List Int} {k : Nat} {e : Int} (he : e ≠ 0) : rdN l k e = (0, k, e) := by unfold rdN; rw [if_neg he]
theorem rdN_none {l : List Int} {k : Nat} (h : numF (l.drop k) = none) : rdN l k 0 = (0, k, 40) := by unfold rdN; rw [if_pos rfl, h]
theorem rdN_some {l : List Int} {k : Nat} {v : Int} {l1 : List Int} (h : numF (l.drop k) = some (v, l1)) : rdN l k 0 = (v, l.length - l1.length, 0) := by unfold rdN; rw [if_pos rfl, h]

/-- Where a number ends. -/
theorem num_end {l : List Int} {k : Nat} {v : Int} {l1 : List Int} (hb : ∀ x ∈ l, IsB x) (hk : k ≤ l.length) (h : numF (l.drop k) = some (v, l1)) : 0 ≤ v ∧ v ≤ MAXN ∧ l.length - l1.length ≤ l.length ∧ k < l.length - l1.length ∧ l1 = l.drop (l.length - l1.length) := by
  obtain ⟨n, e1, n1, n2, v0, v1, -, -⟩ := numF_some (fun x hx => hb x (List.mem_of_mem_drop hx)) h
  rw [List.drop_drop] at e1
  rw [List.length_drop] at n2
  have e3 : l1.length = l.length - (k + n) := by rw [e1, List.length_drop]
  refine ⟨v0, v1, by omega, by omega, ?_⟩
  rw [e3, show l.length - (l.length - (k + n)) = k + n by omega]
  exact e1
theorem rdN_val {l : List Int} {k : Nat} {e : Int} (hb : ∀ x ∈ l, IsB x) (hk : k ≤ l.length) : 0 ≤ (rdN l k e).1 ∧ (rdN l k e).1 ≤ MAXN ∧ (rdN l k e).2.1 ≤ l.length ∧ k ≤ (rdN l k e).2.1 := by
  by_cases he : e = 0
  · subst he
    cases hn : numF (l.drop k) with
    | none => rw [rdN_none hn]; exact ⟨Int.le_refl 0, by show (0 : Int) ≤ MAXN; decide, hk, Nat.le_refl _⟩
    | some p =>
      obtain ⟨v, l1⟩ := p
      rw [rdN_some hn]
      obtain ⟨h1, h2, h3, h4, -⟩ := num_end hb hk hn
      exact ⟨h1, h2, h3, Nat.le_of_lt h4⟩
  · rw [rdN_bad he]; exact ⟨Int.le_refl 0, by show (0 : Int) ≤ MAXN; decide, hk, Nat.le_refl _⟩

/-- A part that is one number. -/
theorem St.num {l : List Int} {x : (Fr × List Int) ⊕ Int} {f f' : Fr} {k k' p : Nat} {e e' v : Int} (h : St l x f k e) (hb : ∀ x ∈ l, IsB x) (hp : p = 1 ∨ p = 2 ∨ p = 3 ∨ p = 5 ∨ p = 6 ∨ p = 7) (hv : (v, k', e') = rdN l k e) (hf : f' = setF f p v) : St l (bind' x (readP p)) f' k' e' := by
  by_cases he : e = 0
  · subst he
    obtain ⟨hk, rfl⟩ := h.ok
    have hr : ∀ (f : Fr) (L : List Int), readP p f L = match numF L with | none => .inr 40 | some (v, l1) => if v > mostF p then .inr 42 else .inl (setF f p v, l1) := fun f L => by
      rcases hp with rfl | rfl | rfl | rfl | rfl | rfl <;> rfl
    have hm : mostF p = MAXN := by rcases hp with rfl | rfl | rfl | rfl | rfl | rfl <;> rfl
    show St l (readP p f (l.drop k)) f' k' e'
    rw [hr]
    cases hn : numF (l.drop k) with
    | none =>
      rw [rdN_none hn] at hv
      cases hv
      exact .inr ⟨by decide, rfl⟩
    | some q =>
      obtain ⟨v1, l1⟩ := q
      obtain ⟨h1, h2, h3, h4, h5⟩ := num_end hb hk hn
      rw [rdN_some hn] at hv
      cases hv
      simp only
      rw [if_neg (by rw [hm]; omega), hf]
      exact .inl ⟨rfl, h3, by rw [← h5]⟩
  · rw [rdN_bad he] at hv
    cases hv
    exact h.err he _
/-- The limit of streams. -/
theorem St.lim {l : List Int} {x : (Fr × List Int) ⊕ Int} {f f' : Fr} {k k' : Nat} {e e' v : Int} (h : St l x f k e) (hb : ∀ x ∈ l, IsB x) (hv : (v, k', e') = rdN l k e) (hf : f' = { f with limit := v }) : St l (bind' x (readP 4)) f' k' (mst e' (decide (v ≤ 1152921504606846976))) := by
  by_cases he : e = 0
  · subst he
    obtain ⟨hk, rfl⟩ := h.ok
    have hr : ∀ (f : Fr) (L : List Int), readP 4 f L = match numF L with | none => .inr 40 | some (v, l1) => if v > 1152921504606846976 then .inr 42 else .inl ({ f with limit := v }, l1) := fun f L => rfl
    show St l (readP 4 f (l.drop k)) f' k' _
    rw [hr]
    cases hn : numF (l.drop k) with
    | none =>
      rw [rdN_none hn] at hv
      cases hv
      exact .inr ⟨by decide, rfl⟩
    | some q =>
      obtain ⟨v1, l1⟩ := q
      obtain ⟨h1, h2, h3, h4, h5⟩ := num_end hb hk hn
      rw [rdN_some hn] at hv
      cases hv
      simp only
      by_cases hg : v > 1152921504606846976
      · rw [if_pos hg]
        right
        have : decide (v ≤ 1152921504606846976) = false := decide_eq_false (by omega)
        rw [this]
        exact ⟨by decide, rfl⟩
      · rw [if_neg hg, hf]
        have : decide (v ≤ 1152921504606846976) = true := decide_eq_true (by omega)
        rw [this]
        exact .inl ⟨rfl, h3, by rw [← h5]⟩
  · rw [rdN_bad he] at hv
    cases hv
    have : mst e (decide ((0 : Int) ≤ 1152921504606846976)) = e := by unfold mst; rw [if_neg (fun h => he h.1)]
    rw [this]
    exact h.err he _
theorem byt_bad {l : List Int} {k : Nat} {e n : Int} (he : e ≠ 0) : byt l k e n = ([], k, e) := by unfold byt; rw [if_neg he]
theorem mst_bad {e : Int} {y : Bool} (he : e ≠ 0) : mst e y = e := by unfold mst; rw [if_neg (fun h => he h.1)]
/-- Counted bytes (the offset's test first). -/
theorem St.cnt {l : List Int} {x : (Fr × List Int) ⊕ Int} {f f' : Fr} {k k' k'' : Nat} {e e' e'' n : Int} {d : List Int} (h : St l x f k e) (hb : ∀ x ∈ l, IsB x) (hv : (n, k', e') = rdN l k e) (hd : (d, k'', e'') = byt l k' (mst e' (decide (f.offset ≤ 4611686018427387903 - n))) n) (hf : f' = { f with data := d }) : St l (bind' x (readP 11)) f' k'' e'' := by
  by_cases he : e = 0
  · subst he
    obtain ⟨hk, rfl⟩ := h.ok
    have hr : ∀ (f : Fr) (L : List Int), readP 11 f L = match numF L with | none => .inr 40 | some (n, l1) => match bytesF f.offset n l1 with | .inr e => .inr e | .inl (d, l2) => .inl ({ f with data := d }, l2) := fun f L => rfl
    show St l (readP 11 f (l.drop k)) f' k'' _
    rw [hr]
    cases hn : numF (l.drop k) with
    | none =>
      rw [rdN_none hn] at hv
      cases hv
      rw [mst_bad (by decide), byt_bad (by decide)] at hd
      cases hd
      exact .inr ⟨by decide, rfl⟩
    | some q =>
      obtain ⟨v1, l1⟩ := q
      obtain ⟨h1, h2, h3, h4, h5⟩ := num_end hb hk hn
      rw [rdN_some hn] at hv
      cases hv
      simp only
      have hlen : (l1.length : Int) = (l.length : Int) - ((l.length - l1.length : Nat) : Int) := by
        have : l1.length = l.length - (l.length - l1.length) := by conv => lhs; rw [h5, List.length_drop]
        omega
      unfold bytesF
      by_cases h42 : n > MAXN - f.offset
      · rw [if_pos h42]
        have : decide (f.offset ≤ 4611686018427387903 - n) = false := decide_eq_false (by unfold MAXN at h42; omega)
        rw [this] at hd
        have m42 : mst 0 false = 42 := rfl
        rw [m42, byt_bad (by decide)] at hd
        cases hd
        exact .inr ⟨by decide, rfl⟩
      · rw [if_neg h42]
        have : decide (f.offset ≤ 4611686018427387903 - n) = true := decide_eq_true (by unfold MAXN at h42; omega)
        rw [this] at hd
        have m0 : mst 0 true = 0 := rfl
        rw [m0] at hd
        unfold byt at hd
        rw [if_pos rfl, ← hlen] at hd
        by_cases h40 : n > (l1.length : Int)
        · rw [if_pos h40] at hd ⊢
          cases hd
          exact .inr ⟨by decide, rfl⟩
        · rw [if_neg h40] at hd ⊢
          cases hd
          have e6 : l.drop (l.length - l1.length + n.toNat) = l1.drop n.toNat := by
            conv => rhs; rw [h5]
            rw [List.drop_drop]
          have e7 : l.drop (l.length - l1.length) = l1 := h5.symm
          refine .inl ⟨rfl, by omega, ?_⟩
          rw [hf, e6, e7]
  · rw [rdN_bad he] at hv
    cases hv
    rw [mst_bad he, byt_bad he] at hd
    cases hd
    exact h.err he _
/-- Eight bytes. -/
theorem St.eight {l : List Int} {x : (Fr × List Int) ⊕ Int} {f f' : Fr} {k k' : Nat} {e e' : Int} {d : List Int} (h : St l x f k e) (hd : (d, k', e') = byt l k e 8) (hf : f' = { f with data := d }) : St l (bind' x (readP 13)) f' k' e' := by
  by_cases he : e = 0
  · subst he
    obtain ⟨hk, rfl⟩ := h.ok
    have hr : ∀ (f : Fr) (L : List Int), readP 13 f L = match bytesF 0 8 L with | .inr e => .inr e | .inl (d, l2) => .inl ({ f with data := d }, l2) := fun f L => rfl
    show St l (readP 13 f (l.drop k)) f' k' _
    rw [hr]
    unfold bytesF
    rw [if_neg (by unfold MAXN; omega), List.length_drop]
    unfold byt at hd
    rw [if_pos rfl] at hd
    by_cases h40 : (8 : Int) > (l.length : Int) - (k : Int)
    · rw [if_pos h40] at hd
      rw [if_pos (by omega)]
      cases hd
      exact .inr ⟨by decide, rfl⟩
    · rw [if_neg h40] at hd
      rw [if_neg (by omega)]
      cases hd
      rw [hf]
      refine .inl ⟨rfl, by omega, ?_⟩
      simp only
      rw [List.drop_drop]
  · rw [byt_bad he] at hd
    cases hd
    exact h.err he _
/-- The bytes that are left. -/
theorem St.tail {l : List Int} {x : (Fr × List Int) ⊕ Int} {f f' : Fr} {k k' : Nat} {e e' : Int} {d : List Int} (h : St l x f k e) (hd : (d, k', e') = byt l k (mst e (decide (f.offset ≤ 4611686018427387903 - ((l.length : Int) - (k : Int))))) ((l.length : Int) - (k : Int))) (hf : f' = { f with data := d }) : St l (bind' x (readP 12)) f' k' e' := by
  by_cases he : e = 0
  · subst he
    obtain ⟨hk, rfl⟩ := h.ok
    have hr : ∀ (f : Fr) (L : List Int), readP 12 f L = match bytesF f.offset L.length L with | .inr e => .inr e | .inl (d, l2) => .inl ({ f with data := d }, l2) := fun f L => rfl
    show St l (readP 12 f (l.drop k)) f' k' _
    rw [hr]
    have el : (((l.drop k).length : Nat) : Int) = (l.length : Int) - (k : Int) := by rw [List.length_drop]; omega
    rw [el]
    generalize hn : (l.length : Int) - (k : Int) = n at *
    unfold bytesF
    rw [el]
    by_cases h42 : n > MAXN - f.offset
    · rw [if_pos h42]
      have : decide (f.offset ≤ 4611686018427387903 - n) = false := decide_eq_false (by unfold MAXN at h42; omega)
      rw [this] at hd
      have m42 : mst 0 false = 42 := rfl
      rw [m42, byt_bad (by decide)] at hd
      cases hd
      exact .inr ⟨by decide, rfl⟩
    · rw [if_neg h42]
      have : decide (f.offset ≤ 4611686018427387903 - n) = true := decide_eq_true (by unfold MAXN at h42; omega)
      rw [this] at hd
      have m0 : mst 0 true = 0 := rfl
      rw [m0] at hd
      unfold byt at hd
      rw [if_pos rfl, if_neg (by omega)] at hd
      rw [if_neg (by omega)]
      cases hd
      rw [hf]
      refine .inl ⟨rfl, by omega, ?_⟩
      simp only
      rw [List.drop_drop]
  · rw [mst_bad he, byt_bad he] at hd
    cases hd
    exact h.err he _
end Go.Proofs.Ytggjeamondampaa

namespace Go.Proofs.Ytggjeamondampaa
open Go.RowKit
set_option linter.unusedVariables false
set_option linter.unusedSimpArgs false
set_option maxRecDepth 100000
set_option maxHeartbeats 1000000

/-- The document's reader in memory. -/
structure RdD (w0 W : World) (G : Nat) (s : Value) (k : Nat) (e : Int) : Prop where
  blk : Blk W G #[s, .int .i64 (k : Int), .int .i64 e] 101
  gr : w0.grownBy W none
  low : w0.heap.size ≤ G
theorem RdD.on {w0 W W' : World} {G k : Nat} {s : Value} {e : Int} (h : RdD w0 W G s k e) (g : W.grownBy W' none) : RdD w0 W' G s k e := ⟨h.blk.grown g, h.gr.trans g, h.low⟩

theorem RdD.num {w0 W : World} {G k n c : Nat} {a : Option Addr} {l : List Int} {e : Int} (h : RdD w0 W G (.slice a n c) k e) (hr : Rd w0 a l) (hn : l.length = n) (hc : n ≤ c) (hc2 : c ≤ maxLen) (hk : k ≤ n) :
    Calls Try.prog 76 #[.pointer (some ⟨G, 0, none⟩)] W fun en W' => ∃ (v : Int) (k' : Nat) (e' : Int), en = .returned (.int .i64 v) ∧ Hid ((v, k', e') = rdN l k e) ∧ RdD w0 W' G (.slice a n c) k' e' ∧ W.grownBy W' (some G) := by
  have c0 := h.blk.cell 0 (.slice a n c) rfl
  have c1 := h.blk.cell 1 (.int .i64 (k : Int)) rfl
  have c2 := h.blk.cell 2 (.int .i64 e) rfl
  have t2 := h.blk.thaws
  by_cases he : e = 0
  · subst he
    have HH := hide h
    have hg := rget_any a l c k W.drew (by
      have := hr.grow h.gr
      exact ⟨this.1, fun hne => by obtain ⟨b, o, e1, h1⟩ := this.2 hne; exact ⟨b, o, e1, h1⟩⟩) (by omega)
    rw [hn] at hg
    rcases num_link l k (by omega) with ⟨h1, h6⟩ | ⟨m, hm1, hm2, hm3, hm4, h5, h6⟩
    · rw [h6] at hg
      have FIN : Hid (∀ W1, W.drew.grownBy W1 none → Hid ((0, k, (40 : Int)) = rdN l k 0) ∧ RdD w0 (W1.setCell ⟨G, 2, none⟩ (.int .i64 40)) G (.slice a n c) k 40 ∧ W.grownBy (W1.setCell ⟨G, 2, none⟩ (.int .i64 40)) (some G)) := fun W1 g1 => by
        have gW : W.grownBy W1 none := ⟨g1.os, g1.tape, g1.output, g1.size, fun i hi hn => g1.block i hi hn⟩
        exact ⟨(rdN_none h1).symm, ⟨((unhide HH).blk.grown gW).setC 2 _, grown_set ((unhide HH).gr.trans gW) G 2 _ (unhide HH).low, (unhide HH).low⟩, grown_at (grown_any gW G) 2 _⟩
      have kp : ∀ W1, Below W.drew.heap.size W.drew W1 → W1.cell? ⟨G, 0, none⟩ = some (.slice a n c) ∧ W1.cell? ⟨G, 1, none⟩ = some (.int .i64 (k : Int)) ∧ W1.cell? ⟨G, 2, none⟩ = some (.int .i64 0) ∧ (∀ j, W1.frozen? ⟨G, j, none⟩ = false) ∧ W.drew.grownBy W1 none := fun W1 hb => by
        have g1 : W.drew.grownBy W1 none := ⟨hb.os, hb.tape, hb.output, hb.size, fun i hi _ => hb.block i hi⟩
        have gW : W.grownBy W1 none := ⟨g1.os, g1.tape, g1.output, g1.size, fun i hi hn => g1.block i hi hn⟩
        exact ⟨cell_grown c0 gW, cell_grown c1 gW, cell_grown c2 gW, ((unhide HH).blk.grown gW).thaws, g1⟩
      have KP := hide kp
      clear h hr hn hc hc2 hk h1 h6 kp
      go_enter Try.func76, Try.ntmps76
      go_wp2_with fail
      go_region_held3 (fun W => W.cell? ⟨G, 0, none⟩ = some (.slice a n c) ∧ W.cell? ⟨G, 1, none⟩ = some (.int .i64 (k : Int))) (go_keep) (first | (go_at_call 54; refine hg.mono ?_; rintro e W1 ⟨rfl, hb⟩; obtain ⟨y0, y1, y2, y3, y4⟩ := unhide KP W1 hb))
      go_wp2_with fail
      go_ret
      obtain ⟨f1, f2, f3⟩ := unhide FIN W1 y4
      exact ⟨0, k, 40, rfl, f1, f2, f3⟩
    · rw [h6] at hg
      obtain ⟨v0, v1, q3, q4, q5⟩ := num_end hr.1 (by omega) h5
      generalize joinF (l.getD k 0 % 64) ((l.drop (k + 1)).take (m - 1)) = v at *
      have hl1 : l.length - (l.drop (k + m)).length = k + m := by rw [List.length_drop]; omega
      have hw : IntKind.i64.wrap v = v := by rw [IntKind.wrap_i64]; unfold MAXN at v1; omega
      have FIN : Hid (∀ W1, W.drew.grownBy W1 none → Hid ((v, k + m, (0 : Int)) = rdN l k 0) ∧ RdD w0 (W1.setCell ⟨G, 1, none⟩ (.int .i64 ((k : Int) + (m : Int)))) G (.slice a n c) (k + m) 0 ∧ W.grownBy (W1.setCell ⟨G, 1, none⟩ (.int .i64 ((k : Int) + (m : Int)))) (some G)) := fun W1 g1 => by
        have gW : W.grownBy W1 none := ⟨g1.os, g1.tape, g1.output, g1.size, fun i hi hn => g1.block i hi hn⟩
        refine ⟨by rw [rdN_some h5, hl1]; exact hide rfl, ⟨?_, grown_set ((unhide HH).gr.trans gW) G 1 _ (unhide HH).low, (unhide HH).low⟩, grown_at (grown_any gW G) 1 _⟩
        have := ((unhide HH).blk.grown gW).setC 1 (.int .i64 ((k : Int) + (m : Int)))
        rw [show ((k + m : Nat) : Int) = (k : Int) + (m : Int) by omega]
        exact this
      have kp : ∀ W1, Below W.drew.heap.size W.drew W1 → W1.cell? ⟨G, 0, none⟩ = some (.slice a n c) ∧ W1.cell? ⟨G, 1, none⟩ = some (.int .i64 (k : Int)) ∧ W1.cell? ⟨G, 2, none⟩ = some (.int .i64 0) ∧ (∀ j, W1.frozen? ⟨G, j, none⟩ = false) ∧ W.drew.grownBy W1 none := fun W1 hb => by
        have g1 : W.drew.grownBy W1 none := ⟨hb.os, hb.tape, hb.output, hb.size, fun i hi _ => hb.block i hi⟩
        have gW : W.grownBy W1 none := ⟨g1.os, g1.tape, g1.output, g1.size, fun i hi hn => g1.block i hi hn⟩
        exact ⟨cell_grown c0 gW, cell_grown c1 gW, cell_grown c2 gW, ((unhide HH).blk.grown gW).thaws, g1⟩
      have KP := hide kp
      clear h hr hn hc hc2 hk h5 h6 kp hl1 v0 v1 q3 q4 q5 hm1 hm2 hm3 hm4
      go_enter Try.func76, Try.ntmps76
      go_wp2_with fail
      go_region_held3 (fun W => W.cell? ⟨G, 0, none⟩ = some (.slice a n c) ∧ W.cell? ⟨G, 1, none⟩ = some (.int .i64 (k : Int))) (go_keep) (first | (go_at_call 54; refine hg.mono ?_; rintro e W1 ⟨rfl, hb⟩; obtain ⟨y0, y1, y2, y3, y4⟩ := unhide KP W1 hb))
      go_wp2_with fail
      go_ret
      obtain ⟨f1, f2, f3⟩ := unhide FIN W1 y4
      exact ⟨v, k + m, 0, rfl, f1, f2, f3⟩
  · have e0 : (e != 0) = true := by simp [he]
    have FIN := hide (And.intro (rdN_bad (l := l) (k := k) he).symm h)
    clear h hr hn hc hc2 hk
    go_enter Try.func76, Try.ntmps76
    go_wp2_with fail
    go_ret
    exact ⟨0, k, e, rfl, (unhide FIN).1, (unhide FIN).2, World.grownBy.refl W _⟩

theorem RdD.must {w0 W : World} {G k : Nat} {s : Value} {e : Int} (h : RdD w0 W G s k e) (y : Bool) :
    Calls Try.prog 77 #[.pointer (some ⟨G, 0, none⟩), .bool y] W fun en W' => en = .returned (.tuple #[]) ∧ RdD w0 W' G s k (mst e y) ∧ W.grownBy W' (some G) := by
  have c2 := h.blk.cell 2 (.int .i64 e) rfl
  have t2 := h.blk.thaws
  by_cases he : e = 0
  · subst he
    cases y with
    | false =>
      have FIN : RdD w0 (W.setCell ⟨G, 2, none⟩ (.int .i64 42)) G s k (mst 0 false) ∧ W.grownBy (W.setCell ⟨G, 2, none⟩ (.int .i64 42)) (some G) := ⟨⟨h.blk.setC 2 _, grown_set h.gr G 2 _ h.low, h.low⟩, grown_at (World.grownBy.refl W _) 2 _⟩
      have HF := hide FIN
      clear h FIN
      go_enter Try.func77, Try.ntmps77
      go_wp2_with fail
      go_end0
      exact ⟨rfl, unhide HF⟩
    | true =>
      have FIN : RdD w0 W G s k (mst 0 true) ∧ W.grownBy W (some G) := ⟨h, World.grownBy.refl W _⟩
      have HF := hide FIN
      clear h FIN
      go_enter Try.func77, Try.ntmps77
      go_wp2_with fail
      go_end0
      exact ⟨rfl, unhide HF⟩
  · have e0 : (e == 0) = false := by simp [he]
    have FIN : RdD w0 W G s k (mst e y) ∧ W.grownBy W (some G) := by rw [mst_bad he]; exact ⟨h, World.grownBy.refl W _⟩
    have HF := hide FIN
    clear h FIN
    go_enter Try.func77, Try.ntmps77
    go_wp2_with fail
    go_end0
    exact ⟨rfl, unhide HF⟩

theorem RdD.byts {w0 W : World} {G k n c ab ao : Nat} {l : List Int} {e : Int} (h : RdD w0 W G (.slice (some ⟨ab, ao, none⟩) n c) k e) (hr : Rd w0 (some ⟨ab, ao, none⟩) l) (hn : l.length = n) (hc : n < c) (hc2 : c ≤ maxLen) (hk : k ≤ n) (hl : n ≤ 100000000) (m : Int) (m0 : 0 ≤ m) (m1 : m ≤ MAXN) :
    Calls Try.prog 78 #[.pointer (some ⟨G, 0, none⟩), .int .i64 m] W fun en W' => ∃ (v : Value) (d : List Int) (k' : Nat) (e' : Int), en = .returned v ∧ Hid ((d, k', e') = byt l k e m) ∧ OwnB w0.heap.size W' v d ∧ RdD w0 W' G (.slice (some ⟨ab, ao, none⟩) n c) k' e' ∧ W.grownBy W' (some G) := by
  have c0 := h.blk.cell 0 (.slice (some ⟨ab, ao, none⟩) n c) rfl
  have c1 := h.blk.cell 1 (.int .i64 (k : Int)) rfl
  have c2 := h.blk.cell 2 (.int .i64 e) rfl
  have t2 := h.blk.thaws
  unfold maxLen at hc2
  by_cases he : e = 0
  · subst he
    have wn : IntKind.i64.wrap ((n : Int) - (k : Int)) = (n : Int) - (k : Int) := by rw [IntKind.wrap_i64]; omega
    by_cases hm : m > (n : Int) - (k : Int)
    · have hb : byt l k 0 m = ([], k, 40) := by unfold byt; rw [if_pos rfl, hn, if_pos hm]
      have hd : decide ((n : Int) - (k : Int) < m) = true := decide_eq_true hm
      have FIN : Hid (∀ q, Hid (([], k, (40 : Int)) = byt l k 0 m) ∧ RdD w0 ((W.drewN q).setCell ⟨G, 2, none⟩ (.int .i64 40)) G (.slice (some ⟨ab, ao, none⟩) n c) k 40 ∧ W.grownBy ((W.drewN q).setCell ⟨G, 2, none⟩ (.int .i64 40)) (some G)) := fun q =>
        ⟨hb.symm, ⟨(h.blk.drewN q).setC 2 _, grown_set (grown_drewN h.gr) G 2 _ h.low, h.low⟩, grown_at (grown_any (grown_drewN (World.grownBy.refl W none)) G) 2 _⟩
      clear h hr hn hc hc2 hk hb
      go_enter Try.func78, Try.ntmps78
      go_wp2_with fail
      go_quiet (fail)
      all_goals go_wp2_with fail
      go_ret
      obtain ⟨f1, f2, f3⟩ := unhide FIN _
      exact ⟨_, [], k, 40, rfl, f1, World.ownsRow_nil _ _ _ _, f2, f3⟩
    · obtain ⟨M, rfl⟩ := Int.eq_ofNat_of_zero_le m0
      have hkM : k + M ≤ n := by omega
      have hb : byt l k 0 (M : Int) = ((l.drop k).take M, k + M, 0) := by unfold byt; rw [if_pos rfl, hn, if_neg hm, Int.toNat_natCast]
      have hd : decide ((n : Int) - (k : Int) < (M : Int)) = false := decide_eq_false hm
      have wk : IntKind.i64.wrap ((k : Int) + (M : Int)) = (k : Int) + (M : Int) := by rw [IntKind.wrap_i64]; omega
      have hdl : ((l.drop k).take M).length = M := by rw [List.length_take, List.length_drop]; omega
      have rdd : Rd w0 (some ⟨ab, ao + k, none⟩) ((l.drop k).take M) := ⟨fun x hx => hr.1 x (List.mem_of_mem_drop (List.mem_of_mem_take hx)), fun hne => ⟨ab, ao + k, rfl, fun i hi => by
        rw [hdl] at hi
        obtain ⟨b', o', e1, h1⟩ := hr.2 (by intro e; rw [e] at hn; simp at hn; omega)
        cases e1
        have := h1 (k + i) (by omega)
        rw [Nat.add_assoc, this, sub_get l k M i hi]⟩⟩
      have cp : ∀ q, Calls Try.prog 53 #[.slice (some ⟨ab, ao + k, none⟩) M (c - k)] (W.drewN q) fun e w' => ∃ v, e = .returned v ∧ OwnB w0.heap.size w' v ((l.drop k).take M) ∧ (W.drewN q).grownBy w' none := fun q =>
        (copied_any (some ⟨ab, ao + k, none⟩) (c - k) M _ (W.drewN q) hdl (rdd.grow (grown_drewN h.gr)) (by omega) ⟨by omega, by omega⟩).mono (by rintro e w' ⟨v, h1, h2, h3⟩; exact ⟨v, h1, h2.mono h.gr.size, h3⟩)
      have FIN : Hid (∀ q W1 v, OwnB w0.heap.size W1 v ((l.drop k).take M) → (W.drewN q).grownBy W1 none → Hid (((l.drop k).take M, k + M, (0 : Int)) = byt l k 0 (M : Int)) ∧ OwnB w0.heap.size (W1.setCell ⟨G, 1, none⟩ (.int .i64 ((k : Int) + (M : Int)))) v ((l.drop k).take M) ∧ RdD w0 (W1.setCell ⟨G, 1, none⟩ (.int .i64 ((k : Int) + (M : Int)))) G (.slice (some ⟨ab, ao, none⟩) n c) (k + M) 0 ∧ W.grownBy (W1.setCell ⟨G, 1, none⟩ (.int .i64 ((k : Int) + (M : Int)))) (some G)) := fun q W1 v o1 g1 => by
        have gW : W.grownBy W1 none := ⟨g1.os, g1.tape, g1.output, g1.size, fun i hi hn => g1.block i hi hn⟩
        have BG := h.blk.grown gW
        refine ⟨hb.symm, World.ownsRow.kept o1 (grown_at (World.grownBy.refl W1 (some G)) 1 _) ?_, ⟨?_, grown_set (h.gr.trans gW) G 1 _ h.low, h.low⟩, grown_at (grown_any gW G) 1 _⟩
        · cases hv : v.ownBlock with
          | none => exact .inl rfl
          | some x => right; rw [← hv]; exact o1.neBlk BG (by decide)
        · have := BG.setC 1 (.int .i64 ((k : Int) + (M : Int)))
          rw [show ((k + M : Nat) : Int) = (k : Int) + (M : Int) by omega]
          exact this
      have KP : Hid (∀ q W1, (W.drewN q).grownBy W1 none → W1.cell? ⟨G, 0, none⟩ = some (.slice (some ⟨ab, ao, none⟩) n c) ∧ W1.cell? ⟨G, 1, none⟩ = some (.int .i64 (k : Int)) ∧ ∀ j, W1.frozen? ⟨G, j, none⟩ = false) := fun q W1 g1 => by
        have gW : W.grownBy W1 none := ⟨g1.os, g1.tape, g1.output, g1.size, fun i hi hn => g1.block i hi hn⟩
        exact ⟨cell_grown c0 gW, cell_grown c1 gW, (h.blk.grown gW).thaws⟩
      have i1 : (k : Int) ≤ (k : Int) + (M : Int) := by omega
      have i2 : (k : Int) + (M : Int) ≤ (c : Int) := by omega
      have i3 : k ≤ k + M := by omega
      have i4 : k + M ≤ c := by omega
      have hck : ¬ c = k := by omega
      have hkm : ((k : Int) + (M : Int)).toNat - k = M := by omega
      clear h hr hn hb rdd hdl m0 m1 hm hc hc2 hk hl hkM
      generalize (l.drop k).take M = D at *
      go_enter Try.func78, Try.ntmps78
      go_wp2_with fail
      go_quiet (fail)
      all_goals go_wp2_with fail
      go_region_held3 (fun W => W.cell? ⟨G, 0, none⟩ = some (.slice (some ⟨ab, ao, none⟩) n c) ∧ W.cell? ⟨G, 1, none⟩ = some (.int .i64 (k : Int))) (go_keep) (first | (go_at_call 53; refine (cp _).mono ?_; rintro e W1 ⟨v, rfl, o1, g1⟩; obtain ⟨y0, y1, y3⟩ := unhide KP _ W1 g1))
      go_wp2_with fail
      go_ret
      obtain ⟨f1, f2, f3, f4⟩ := unhide FIN _ W1 v o1 g1
      exact ⟨v, D, k + M, 0, rfl, f1, f2, f3, f4⟩
  · have e0 : (e != 0) = true := by simp [he]
    have FIN := hide (And.intro (byt_bad (l := l) (k := k) (n := m) he).symm h)
    clear h hr hn hc hc2 hk
    go_enter Try.func78, Try.ntmps78
    go_wp2_with fail
    go_ret
    exact ⟨_, [], k, e, rfl, (unhide FIN).1, World.ownsRow_nil _ _ _ _, (unhide FIN).2, World.grownBy.refl W _⟩
end Go.Proofs.Ytggjeamondampaa

namespace Go.Proofs.Ytggjeamondampaa
open Go.RowKit
set_option linter.unusedVariables false
set_option linter.unusedSimpArgs false
set_option maxRecDepth 100000
set_option maxHeartbeats 1000000

/-- While the parts of a frame are read. -/
structure PD (w0 W : World) (G b : Nat) (s : Value) (k : Nat) (e : Int) (f : Fr) (d r : Value) : Prop where
  rd : RdD w0 W G s k e
  res : Blk W b Z17 26
  fb : Blk W (b + 1) (f.cs d r) 26
  dat : OwnB w0.heap.size W d f.data
  run : OwnR w0.heap.size W r f.runs
  lt : G < b ∧ w0.heap.size ≤ b
theorem PD.step {w0 W W' : World} {G b k k' : Nat} {s d r : Value} {e e' : Int} {f : Fr} (P : PD w0 W G b s k e f d r) (g : W.grownBy W' (some G)) (h : RdD w0 W' G s k' e') : PD w0 W' G b s k' e' f d r :=
  ⟨h, P.res.far g (by have := P.lt; omega), P.fb.far g (by have := P.lt; omega), World.ownsRow.kept P.dat g (row_far P.rd.blk P.dat (by decide)), World.ownsRow.kept P.run g (row_far P.rd.blk P.run (by decide)), P.lt⟩
theorem PD.set {w0 W : World} {G b k : Nat} {s d r : Value} {e : Int} {f : Fr} (P : PD w0 W G b s k e f d r) (j : Nat) (x : Value) (f' : Fr) (hC : (f.cs d r).setIfInBounds j x = f'.cs d r) (h1 : f'.data = f.data) (h2 : f'.runs = f.runs) : PD w0 (W.setCell ⟨b + 1, j, none⟩ x) G b s k e f' d r := by
  have g := grown_cellS W (b + 1) j x
  refine ⟨⟨P.rd.blk.setO _ _ _ (by have := P.lt; omega), grown_set P.rd.gr _ _ _ (by have := P.lt; omega), P.rd.low⟩, P.res.setO _ _ _ (by omega), ?_, ?_, ?_, P.lt⟩
  · have := P.fb.setC j x
    rw [hC] at this
    exact this
  · rw [h1]; exact World.ownsRow.kept P.dat g (row_far P.fb P.dat (by decide))
  · rw [h2]; exact World.ownsRow.kept P.run g (row_far P.fb P.run (by decide))
theorem PD.setD {w0 W : World} {G b k : Nat} {s d d' r : Value} {e : Int} {f : Fr} {l : List Int} (P : PD w0 W G b s k e f d r) (o : OwnB w0.heap.size W d' l) : PD w0 (W.setCell ⟨b + 1, 3, none⟩ d') G b s k e { f with data := l } d' r := by
  have g := grown_cellS W (b + 1) 3 d'
  exact ⟨⟨P.rd.blk.setO _ _ _ (by have := P.lt; omega), grown_set P.rd.gr _ _ _ (by have := P.lt; omega), P.rd.low⟩, P.res.setO _ _ _ (by omega), P.fb.setC 3 d', World.ownsRow.kept o g (row_far P.fb o (by decide)), World.ownsRow.kept P.run g (row_far P.fb P.run (by decide)), P.lt⟩
theorem PD.new {w0 W : World} {G k : Nat} {s : Value} {e : Int} (h : RdD w0 W G s k e) (f : Fr) (h1 : f.data = []) (h2 : f.runs = []) : PD w0 ((W.alloc (.cells Z17 26)).alloc (.cells (f.cs nilS nilS) 26)) G W.heap.size s k e f nilS nilS := by
  obtain ⟨B1, B2, g2⟩ := Blk.two W Z17 (f.cs nilS nilS) 26 26
  exact ⟨h.on g2, B1, B2, by rw [h1]; exact World.ownsRow_nil _ _ _ _, by rw [h2]; exact World.ownsRow_nil _ _ _ _, ⟨h.blk.lt, h.gr.size⟩⟩

theorem bind_zero (x : (Fr × List Int) ⊕ Int) : bind' x (readP 0) = x := by
  cases x with
  | inr e => rfl
  | inl p => rfl
theorem readPs_eq (a b c d : Nat) (f : Fr) (l : List Int) : readPs (a, b, c, d) f l = bind' (bind' (bind' (bind' (.inl (f, l)) (readP a)) (readP b)) (readP c)) (readP d) := by
  show bind' (readP a f l) (fun f l => bind' (readP b f l) fun f l => bind' (readP c f l) fun f l => readP d f l) = bind' (bind' (bind' (readP a f l) (readP b)) (readP c)) (readP d)
  cases readP a f l with
  | inr e => rfl
  | inl p =>
    show bind' (readP b p.1 p.2) (fun f l => bind' (readP c f l) fun f l => readP d f l) = bind' (bind' (readP b p.1 p.2) (readP c)) (readP d)
    cases readP b p.1 p.2 with
    | inr e => rfl
    | inl q => rfl
/-- What parts answers. -/
def PPost (w0 : World) (G : Nat) (s : Value) (l : List Int) (x : (Fr × List Int) ⊕ Int) (en : Ending) (W' : World) : Prop :=
  ∃ C2 : Array Value, en = .returned (.agg C2) ∧ C2.size = 17 ∧ C2.all (·.oneCell') = true ∧ Hid (∃ f d r k e, C2 = f.cs d r ∧ OwnB w0.heap.size W' d f.data ∧ OwnR w0.heap.size W' r f.runs ∧ RdD w0 W' G s k e ∧ St l x f k e)

/-- The answer is laid. -/
theorem PD.fin {w0 W : World} {G b k : Nat} {s d r : Value} {e : Int} {f : Fr} {l : List Int} {x : (Fr × List Int) ⊕ Int} (P : PD w0 W G b s k e f d r) (S : St l x f k e) : ∃ D : Array Value, D.size = 17 ∧ D.all (·.oneCell') = true ∧ Blk W (b + 1) D 26 ∧ Blk W b Z17 26 ∧ Blk (W.setRow b D) b D 26 ∧ Hid (PPost w0 G s l x (.returned (.agg D)) (W.setRow b D)) := by
  obtain ⟨a1, c1, e1⟩ := P.dat.shape
  obtain ⟨a2, c2, e2, -⟩ := row_shape P.run
  have h1 : (f.cs d r).all (·.oneCell') = true := one17 _ _ _ (by rw [e1]; rfl) (by rw [e2]; rfl)
  refine ⟨f.cs d r, rfl, h1, P.fb, P.res, P.res.row _, f.cs d r, rfl, rfl, h1, f, d, r, k, e, rfl, P.dat.row P.res, P.run.row P.res, ⟨P.rd.blk.rowO b _ (by have := P.lt; omega), grown_row P.rd.gr b _ P.lt.2, P.rd.low⟩, S⟩
end Go.Proofs.Ytggjeamondampaa

namespace Go.Proofs.Ytggjeamondampaa
open Go.RowKit
set_option linter.unusedVariables false
set_option maxRecDepth 100000
set_option maxHeartbeats 1000000

theorem grown_rowT {w W : World} {r : Option Nat} (g : w.grownBy W r) (b : Nat) (cs : Array Value) (hb : w.heap.size ≤ b) : w.grownBy (W.setRow b cs) r := by
  refine ⟨g.os, g.tape, g.output, ?_, ?_⟩
  · show w.heap.size ≤ (W.heap.modify b _).size
    rw [Array.size_modify]; exact g.size
  · intro i hi hn
    have e : (W.setRow b cs).heap[i]? = W.heap[i]? := by
      simp only [World.setRow, Array.getElem?_modify]
      rw [if_neg (by omega)]
    rw [e]; exact g.block i hi hn
theorem PD.onN {w0 W W' : World} {G b k : Nat} {s d r : Value} {e : Int} {f : Fr} (P : PD w0 W G b s k e f d r) (g : W.grownBy W' none) : PD w0 W' G b s k e f d r :=
  ⟨P.rd.on g, P.res.grown g, P.fb.grown g, World.ownsRow.kept P.dat g (by cases d.ownBlock <;> simp), World.ownsRow.kept P.run g (by cases r.ownBlock <;> simp), P.lt⟩
/-- The frame is another one now. -/
theorem PD.put {w0 W : World} {G b k k2 : Nat} {s d r d2 r2 : Value} {e e2 : Int} {f f2 : Fr} (P : PD w0 W G b s k e f d r) (h : RdD w0 W G s k2 e2) (o1 : OwnB w0.heap.size W d2 f2.data) (o2 : OwnR w0.heap.size W r2 f2.runs) : PD w0 (W.setRow (b + 1) (f2.cs d2 r2)) G b s k2 e2 f2 d2 r2 :=
  ⟨⟨h.blk.rowO _ _ (by have := P.lt; omega), grown_row h.gr _ _ (by have := P.lt; omega), h.low⟩, P.res.rowO _ _ (by omega), P.fb.row _, o1.row P.fb, o2.row P.fb, P.lt⟩

structure PE (Ws w0 W : World) (G b : Nat) (s : Value) (k : Nat) (e : Int) (f : Fr) (d r : Value) : Prop where
  p : PD w0 W G b s k e f d r
  gs : Ws.grownBy W (some G)
  hs : Ws.heap.size ≤ b
section
variable {Ws w0 W W' : World} {G b k k' : Nat} {s d d' r : Value} {e e' : Int} {f : Fr}
theorem PE.step (P : PE Ws w0 W G b s k e f d r) (g : W.grownBy W' (some G)) (h : RdD w0 W' G s k' e') : PE Ws w0 W' G b s k' e' f d r := ⟨P.p.step g h, P.gs.trans g, P.hs⟩
theorem PE.set (P : PE Ws w0 W G b s k e f d r) (j : Nat) (x : Value) (f' : Fr) (hC : (f.cs d r).setIfInBounds j x = f'.cs d r) (h1 : f'.data = f.data) (h2 : f'.runs = f.runs) : PE Ws w0 (W.setCell ⟨b + 1, j, none⟩ x) G b s k e f' d r :=
  ⟨P.p.set j x f' hC h1 h2, grown_setS P.gs _ _ _ (by have := P.hs; omega), P.hs⟩
theorem PE.setD {l : List Int} (P : PE Ws w0 W G b s k e f d r) (o : OwnB w0.heap.size W d' l) : PE Ws w0 (W.setCell ⟨b + 1, 3, none⟩ d') G b s k e { f with data := l } d' r :=
  ⟨P.p.setD o, grown_setS P.gs _ _ _ (by have := P.hs; omega), P.hs⟩
theorem PE.onN (P : PE Ws w0 W G b s k e f d r) (g : W.grownBy W' none) : PE Ws w0 W' G b s k e f d r := ⟨P.p.onN g, P.gs.trans (grown_any g G), P.hs⟩
theorem PE.new (h : RdD w0 Ws G s k e) (f : Fr) (h1 : f.data = []) (h2 : f.runs = []) : PE Ws w0 ((Ws.alloc (.cells Z17 26)).alloc (.cells (f.cs nilS nilS) 26)) G Ws.heap.size s k e f nilS nilS :=
  ⟨PD.new h f h1 h2, grown_any (Blk.two Ws Z17 (f.cs nilS nilS) 26 26).2.2 G, Nat.le_refl _⟩
theorem PE.fin {l : List Int} {x : (Fr × List Int) ⊕ Int} (P : PE Ws w0 W G b s k e f d r) (S : St l x f k e) : ∃ D : Array Value, D.size = 17 ∧ D.all (·.oneCell') = true ∧ Blk W (b + 1) D 26 ∧ Blk W b Z17 26 ∧ Blk (W.setRow b D) b D 26 ∧ Hid (PPost w0 G s l x (.returned (.agg D)) (W.setRow b D) ∧ Ws.grownBy (W.setRow b D) (some G)) := by
  obtain ⟨D, h1, h2, h3, h4, h5, h6⟩ := P.p.fin S
  exact ⟨D, h1, h2, h3, h4, h5, unhide h6, grown_rowT P.gs b D P.hs⟩
end
end Go.Proofs.Ytggjeamondampaa

namespace Go.Proofs.Ytggjeamondampaa
set_option linter.unusedVariables false
set_option maxRecDepth 100000
theorem St.tailO {l : List Int} {x : (Fr × List Int) ⊕ Int} {f f' : Fr} {k k' n : Nat} {e e' o : Int} {d : List Int} (h : St l x f k e) (hn : l.length = n) (ho : f.offset = o) (hd : (d, k', e') = byt l k (mst e (decide (o ≤ 4611686018427387903 - ((n : Int) - (k : Int))))) ((n : Int) - (k : Int))) (hf : f' = { f with data := d }) : St l (bind' x (readP 12)) f' k' e' := by
  subst hn ho
  exact h.tail hd hf
theorem St.cntO {l : List Int} {x : (Fr × List Int) ⊕ Int} {f f' : Fr} {k k' k'' : Nat} {e e' e'' n o : Int} {d : List Int} (h : St l x f k e) (hb : ∀ x ∈ l, IsB x) (ho : f.offset = o) (hv : (n, k', e') = rdN l k e) (hd : (d, k'', e'') = byt l k' (mst e' (decide (o ≤ 4611686018427387903 - n))) n) (hf : f' = { f with data := d }) : St l (bind' x (readP 11)) f' k'' e'' := by
  subst ho
  exact h.cnt hb hv hd hf
end Go.Proofs.Ytggjeamondampaa

namespace Go.Proofs.Ytggjeamondampaa
set_option linter.unusedVariables false
set_option maxRecDepth 100000

theorem rd_cases {l : List Int} {k k' : Nat} {e e' v : Int} (hb : ∀ x ∈ l, IsB x) (hk : k ≤ l.length) (h : (v, k', e') = rdN l k e) : (e ≠ 0 ∧ e' = e) ∨ (e = 0 ∧ e' = 40 ∧ numF (l.drop k) = none) ∨ (e = 0 ∧ e' = 0 ∧ numF (l.drop k) = some (v, l.drop k') ∧ k' ≤ l.length) := by
  by_cases he : e = 0
  · subst he
    cases hn : numF (l.drop k) with
    | none => rw [rdN_none hn] at h; cases h; exact .inr (.inl ⟨rfl, rfl, rfl⟩)
    | some p =>
      obtain ⟨v1, l1⟩ := p
      obtain ⟨-, -, h3, -, h5⟩ := num_end hb hk hn
      rw [rdN_some hn] at h; cases h
      exact .inr (.inr ⟨rfl, rfl, by rw [← h5], h3⟩)
  · rw [rdN_bad he] at h; cases h; exact .inl ⟨he, rfl⟩

/-- What the further runs make of it. -/
def contR (f : Fr) (T : List (Int × Int)) : (List (Int × Int) × List Int) ⊕ Int → (Fr × List Int) ⊕ Int
  | .inr e => .inr e
  | .inl (rs, l3) => .inl ({ f with runs := T ++ rs }, l3)
def AckI (l : List Int) (x : (Fr × List Int) ⊕ Int) (f : Fr) (T : List (Int × Int)) (lo : Int) (j k : Nat) (e : Int) : Prop :=
  (e = 0 ∧ k ≤ l.length ∧ 0 ≤ lo ∧ x = contR f T (moreF j lo (l.drop k))) ∨ (e ≠ 0 ∧ x = .inr e)
theorem AckI.fin {l : List Int} {x : (Fr × List Int) ⊕ Int} {f : Fr} {T : List (Int × Int)} {lo : Int} {k : Nat} {e : Int} {j : Nat} (h : AckI l x f T lo j k e) (hj : j = 0 ∨ e ≠ 0) : St l x { f with runs := T } k e := by
  rcases h with ⟨h1, h2, h3, h4⟩ | ⟨h1, h2⟩
  · obtain rfl : j = 0 := by rcases hj with h | h; · exact h
                             · exact absurd h1 h
    exact .inl ⟨h1, h2, by rw [h4]; simp [moreF, contR]⟩
  · exact .inr ⟨h1, h2⟩
theorem AckI.start {l : List Int} {f0 : Fr} {k k1 k2 k3 k4 : Nat} {e1 e2 e3 e4 v1 v2 v3 v4 : Int} (hb : ∀ x ∈ l, IsB x) (hk : k ≤ l.length) (h1 : (v1, k1, e1) = rdN l k 0) (h2 : (v2, k2, e2) = rdN l k1 e1) (h3 : (v3, k3, e3) = rdN l k2 e2) (h4 : (v4, k4, e4) = rdN l k3 e3) :
    AckI l (bind' (bind' (bind' (.inl (f0, l.drop k)) (readP 8)) (readP 7)) (readP 9)) { f0 with delay := v2 } [(v1 - v4, v1)] (v1 - v4) v3.toNat k4 (mst e4 (decide (v4 ≤ v1))) := by
  have r8 : ∀ (f : Fr) (L : List Int), readP 8 f L = match numF L with | none => .inr 40 | some (v, l1) => .inl ({ f with runs := [(0, v)] }, l1) := fun _ _ => rfl
  have r7 : ∀ (f : Fr) (L : List Int), readP 7 f L = match numF L with | none => .inr 40 | some (v, l1) => if v > MAXN then .inr 42 else .inl ({ f with delay := v }, l1) := fun _ _ => rfl
  have r9 : ∀ (f : Fr) (L : List Int), readP 9 f L = match runsF (f.runs.headD (0, 0)).2 L with | .inr e => .inr e | .inl (rs, l1) => .inl ({ f with runs := rs }, l1) := fun _ _ => rfl
  have B : ∀ x : (Fr × List Int) ⊕ Int, x = .inr 40 → AckI l x { f0 with delay := v2 } [(v1 - v4, v1)] (v1 - v4) v3.toNat k4 40 := fun x hx => .inr ⟨by decide, hx⟩
  have hv := rdN_val (l := l) (k := k) (e := 0) hb hk
  rw [← h1] at hv
  rcases rd_cases hb hk h1 with ⟨h, -⟩ | ⟨-, rfl, n1⟩ | ⟨-, rfl, n1, q1⟩
  · exact absurd rfl h
  · rcases rd_cases hb (by rw [rdN_none n1] at h1; cases h1; exact hk) h2 with ⟨-, rfl⟩ | ⟨h, -⟩ | ⟨h, -⟩
    · rw [rdN_bad (by decide)] at h2; cases h2
      rw [rdN_bad (by decide)] at h3; cases h3
      rw [rdN_bad (by decide)] at h4; cases h4
      rw [mst_bad (by decide)]
      exact B _ (by show bind' (bind' (readP 8 f0 (l.drop k)) (readP 7)) (readP 9) = _; rw [r8, n1]; rfl)
    · exact absurd h (by decide)
    · exact absurd h (by decide)
  · have e8 : bind' (.inl (f0, l.drop k)) (readP 8) = .inl ({ f0 with runs := [(0, v1)] }, l.drop k1) := by show readP 8 f0 (l.drop k) = _; rw [r8, n1]
    rw [e8]
    have hv2 := rdN_val (l := l) (k := k1) (e := 0) hb q1
    rw [← h2] at hv2
    rcases rd_cases hb q1 h2 with ⟨h, -⟩ | ⟨-, rfl, n2⟩ | ⟨-, rfl, n2, q2⟩
    · exact absurd rfl h
    · rw [rdN_bad (by decide)] at h3; cases h3
      rw [rdN_bad (by decide)] at h4; cases h4
      rw [mst_bad (by decide)]
      exact B _ (by show bind' (readP 7 _ (l.drop k1)) (readP 9) = _; rw [r7, n2]; rfl)
    · have e7 : bind' (.inl ({ f0 with runs := [(0, v1)] }, l.drop k1)) (readP 7) = .inl ({ f0 with runs := [(0, v1)], delay := v2 }, l.drop k2) := by
        show readP 7 _ (l.drop k1) = _
        rw [r7, n2]
        simp only
        rw [if_neg (by simp only at hv2; omega)]
      rw [e7]
      have e9 : bind' (.inl ({ f0 with runs := [(0, v1)], delay := v2 }, l.drop k2)) (readP 9) = match runsF v1 (l.drop k2) with | .inr e => .inr e | .inl (rs, l1) => .inl ({ f0 with delay := v2, runs := rs }, l1) := by
        show readP 9 _ (l.drop k2) = _
        rw [r9]
        rfl
      rw [e9]
      unfold runsF
      rcases rd_cases hb q2 h3 with ⟨h, -⟩ | ⟨-, rfl, n3⟩ | ⟨-, rfl, n3, q3⟩
      · exact absurd rfl h
      · rw [rdN_bad (by decide)] at h4; cases h4
        rw [mst_bad (by decide), n3]
        exact B _ rfl
      · rw [n3]
        simp only
        unfold runF
        rw [if_neg (by simp only at hv; omega)]
        rcases rd_cases hb q3 h4 with ⟨h, -⟩ | ⟨-, rfl, n4⟩ | ⟨-, rfl, n4, q4⟩
        · exact absurd rfl h
        · rw [mst_bad (by decide), n4]
          exact B _ rfl
        · rw [n4]
          simp only
          by_cases hg : v4 > v1
          · rw [if_pos hg, decide_eq_false (by omega)]
            exact .inr ⟨by decide, rfl⟩
          · rw [if_neg hg, decide_eq_true (by omega)]
            refine .inl ⟨rfl, q4, by omega, ?_⟩
            simp only
            cases moreF v3.toNat (v1 - v4) (l.drop k4) with
            | inr e => rfl
            | inl p => rfl
theorem AckI.step {l : List Int} {x : (Fr × List Int) ⊕ Int} {f : Fr} {T : List (Int × Int)} {lo g le : Int} {j k k1 k2 : Nat} {e1 e3 : Int} (h : AckI l x f T lo (j + 1) k 0) (hb : ∀ x ∈ l, IsB x) (h1 : (g, k1, e1) = rdN l k 0) (h2 : (le, k2, e3) = rdN l k1 (mst e1 (decide (g ≤ lo - 2)))) :
    AckI l x f (T ++ [(lo - g - 2 - le, lo - g - 2)]) (lo - g - 2 - le) j k2 (mst e3 (decide (le ≤ lo - g - 2))) := by
  rcases h with ⟨-, hk, hlo, hx⟩ | ⟨h, -⟩
  case inr => exact absurd rfl h
  rw [hx]
  unfold moreF
  rcases rd_cases hb hk h1 with ⟨h, -⟩ | ⟨-, rfl, n1⟩ | ⟨-, rfl, n1, q1⟩
  · exact absurd rfl h
  · rw [mst_bad (by decide), rdN_bad (by decide)] at h2; cases h2
    rw [mst_bad (by decide), n1]
    exact .inr ⟨by decide, rfl⟩
  · rw [n1]
    simp only
    unfold runF
    by_cases hg : g ≤ lo - 2
    · rw [if_neg (by omega)]
      rw [decide_eq_true hg] at h2
      have h2' : (le, k2, e3) = rdN l k1 0 := h2
      rcases rd_cases hb q1 h2' with ⟨h, -⟩ | ⟨-, rfl, n2⟩ | ⟨-, rfl, n2, q2⟩
      · exact absurd rfl h
      · rw [mst_bad (by decide), n2]
        exact .inr ⟨by decide, rfl⟩
      · rw [n2]
        simp only
        by_cases hl : le > lo - g - 2
        · rw [if_pos hl, decide_eq_false (by omega)]
          exact .inr ⟨by decide, rfl⟩
        · rw [if_neg hl, decide_eq_true (by omega)]
          refine .inl ⟨rfl, q2, by omega, ?_⟩
          simp only
          cases moreF j (lo - g - 2 - le) (l.drop k2) with
          | inr e => rfl
          | inl p => simp [contR]
    · rw [if_pos (by omega)]
      rw [decide_eq_false hg] at h2
      have h2' : (le, k2, e3) = rdN l k1 42 := h2
      rw [rdN_bad (by decide)] at h2'; cases h2'
      rw [mst_bad (by decide)]
      exact .inr ⟨by decide, rfl⟩

def rdC (j : Nat) (f : Fr) (L : List Int) : (Fr × List Int) ⊕ Int := match numF L with | none => .inr 40 | some (v, l1) => .inl ((if j = 0 then { f with c0 := v } else if j = 1 then { f with c1 := v } else { f with c2 := v }), l1)
theorem St.cou {l : List Int} {x : (Fr × List Int) ⊕ Int} {f f' : Fr} {k k' j : Nat} {e e' v : Int} (h : St l x f k e) (hb : ∀ x ∈ l, IsB x) (hv : (v, k', e') = rdN l k e) (hf : f' = if j = 0 then { f with c0 := v } else if j = 1 then { f with c1 := v } else { f with c2 := v }) : St l (bind' x (rdC j)) f' k' e' := by
  by_cases he : e = 0
  · subst he
    obtain ⟨hk, rfl⟩ := h.ok
    show St l (rdC j f (l.drop k)) f' k' e'
    unfold rdC
    rcases rd_cases hb hk hv with ⟨h, -⟩ | ⟨-, rfl, n1⟩ | ⟨-, rfl, n1, q1⟩
    · exact absurd rfl h
    · rw [n1]; exact .inr ⟨by decide, rfl⟩
    · rw [n1, hf]; exact .inl ⟨rfl, q1, rfl⟩
  · rw [rdN_bad he] at hv; cases hv; exact h.err he _
theorem read10 (x : (Fr × List Int) ⊕ Int) : bind' x (readP 10) = bind' (bind' (bind' x (rdC 0)) (rdC 1)) (rdC 2) := by
  cases x with
  | inr e => rfl
  | inl p =>
    obtain ⟨f, L⟩ := p
    show readP 10 f L = bind' (bind' (rdC 0 f L) (rdC 1)) (rdC 2)
    have r10 : readP 10 f L = match numF L with | none => .inr 40 | some (a, l1) => match numF l1 with | none => .inr 40 | some (b, l2) => match numF l2 with | none => .inr 40 | some (c, l3) => .inl ({ f with c0 := a, c1 := b, c2 := c }, l3) := rfl
    rw [r10]
    unfold rdC
    cases numF L with
    | none => rfl
    | some q =>
      show _ = bind' (rdC 1 _ q.2) (rdC 2)
      unfold rdC
      simp only
      cases numF q.2 with
      | none => rfl
      | some q2 =>
        show _ = rdC 2 _ q2.2
        unfold rdC
        simp only
        cases numF q2.2 with
        | none => rfl
        | some q3 => rfl
end Go.Proofs.Ytggjeamondampaa
