/- What is read may be, and is written no longer; by lists. -/
import Derived.Test.YtggjeamondampabF1P
namespace Go.Proofs.Ytggjeamondampab
open Go.RowKit
set_option linter.unusedVariables false
set_option linter.unusedSimpArgs false
set_option maxRecDepth 100000
set_option maxHeartbeats 4000000

def Bs (l : List Int) : Prop := ∀ x ∈ l, IsB x
theorem Bs.drop {l : List Int} (h : Bs l) (n : Nat) : Bs (l.drop n) := fun x hx => h x (List.mem_of_mem_drop hx)

theorem dig_bytes (v : Int) (n : Nat) : Bs (dig v n) := by
  induction n with
  | zero => intro x hx; cases hx
  | succ n ih =>
    intro x hx
    rcases List.mem_cons.1 hx with rfl | hx
    · unfold IsB; omega
    · exact ih x hx
theorem layF_bytes {v : Int} {n : Nat} (h : Fits v n) (v0 : 0 ≤ v) : Bs (layF v n) := by
  cases n with
  | zero => intro x hx; simp [layF, dig] at hx
  | succ m =>
    obtain ⟨h1, h2, -, -⟩ := sz_mark v m (m + 1) rfl h v0
    have e : layF v (m + 1) = (v / 256 ^ m % 256 + markF (m + 1)) :: dig v m := rfl
    rw [e]
    have hm : 0 ≤ markF (m + 1) ∧ markF (m + 1) ≤ 192 := by unfold markF; (repeat' split) <;> omega
    intro x hx
    rcases List.mem_cons.1 hx with rfl | hx
    · unfold IsB
      generalize v / 256 ^ m = q at *
      omega
    · exact dig_bytes v m x hx
theorem encN_bytes {v : Int} (v0 : 0 ≤ v) (v1 : v ≤ MAXN) : Bs (encN v) := layF_bytes (fits_size v v1) v0
theorem encL_bytes {n : List Int} (h : ∀ v ∈ n, 0 ≤ v ∧ v ≤ MAXN) : Bs (encL n) := fun x hx => by
  obtain ⟨v, hv, hx⟩ := List.mem_flatMap.1 hx
  exact encN_bytes (h v hv).1 (h v hv).2 x hx
theorem Bs.app {a b : List Int} (h : Bs a) (k : Bs b) : Bs (a ++ b) := fun x hx => (List.mem_append.1 hx).elim (h x) (k x)

theorem numF_read {l l1 : List Int} {v : Int} (hb : Bs l) (h : numF l = some (v, l1)) : 0 ≤ v ∧ v ≤ MAXN ∧ (encN v).length + l1.length ≤ l.length ∧ 1 ≤ (encN v).length ∧ Bs l1 := by
  obtain ⟨n, rfl, h1, h2, h3, h4, h5, h6⟩ := numF_some hb h
  refine ⟨h3, h4, ?_, by rw [encN_length]; exact h6, hb.drop n⟩
  rw [encN_length, List.length_drop]; omega

theorem runF_read {l l1 : List Int} {hi : Int} {r : Int × Int} (hb : Bs l) (h : runF hi l = .inl (r, l1)) : 0 ≤ hi ∧ r.2 = hi ∧ 0 ≤ r.1 ∧ r.1 ≤ r.2 ∧ (encN (r.2 - r.1)).length + l1.length ≤ l.length ∧ 1 ≤ (encN (r.2 - r.1)).length ∧ Bs l1 := by
  unfold runF at h
  split at h
  · cases h
  · split at h
    · cases h
    · rename_i less l2 hn
      split at h
      · cases h
      · simp only [Sum.inl.injEq, Prod.mk.injEq] at h
        obtain ⟨rfl, rfl⟩ := h
        obtain ⟨a, b, c, d, e⟩ := numF_read hb hn
        have e1 : hi - (hi - less) = less := by omega
        simp only [e1]
        exact ⟨by omega, by first | rfl | trivial, by omega, by omega, c, d, e⟩

theorem moreF_read : ∀ (n : Nat) (lo : Int) (l : List Int) (rs : List (Int × Int)) (l' : List Int), Bs l → lo ≤ MAXN → moreF n lo l = .inl (rs, l') →
    fallF (lo - 2) rs = true ∧ rs.length = n ∧ (encL (gapsF lo rs)).length + l'.length ≤ l.length ∧ rs.length + l'.length ≤ l.length ∧ Bs l' := by
  intro n
  induction n with
  | zero =>
    intro lo l rs l' hb hl h
    simp only [moreF, Sum.inl.injEq, Prod.mk.injEq] at h
    obtain ⟨rfl, rfl⟩ := h
    exact ⟨rfl, rfl, by simp [gapsF, encL], by simp, hb⟩
  | succ n ih =>
    intro lo l rs l' hb hl h
    simp only [moreF] at h
    split at h
    · cases h
    · rename_i gap l1 hn
      obtain ⟨a1, a2, a3, a4, a5⟩ := numF_read hb hn
      split at h
      · cases h
      · rename_i r l2 hr
        obtain ⟨b1, b2, b3, b4, b5, b6, b7⟩ := runF_read a5 hr
        split at h
        · cases h
        · rename_i rs' l3 hm
          simp only [Sum.inl.injEq, Prod.mk.injEq] at h
          obtain ⟨rfl, rfl⟩ := h
          obtain ⟨c1, c2, c3, c4, c5⟩ := ih r.1 l2 rs' l3 b7 (by omega) hm
          have e1 : lo - r.2 - 2 = gap := by omega
          refine ⟨?_, by simp [c2], ?_, by simp; omega, c5⟩
          · simp only [fallF, Bool.and_eq_true, decide_eq_true_eq]
            exact ⟨⟨⟨b3, b4⟩, by omega⟩, c1⟩
          · simp only [gapsF, e1, encL, List.flatMap_cons, List.length_append] at c3 ⊢
            omega

theorem runsF_read {hi : Int} {l l' : List Int} {rs : List (Int × Int)} (hb : Bs l) (hh : hi ≤ MAXN) (h : runsF hi l = .inl (rs, l')) :
    areF rs = true ∧ (rs.headD (0, 0)).2 = hi ∧ (encL (runsN rs)).length + l'.length ≤ l.length ∧ rs.length + l'.length ≤ l.length ∧ Bs l' ∧ 0 ≤ hi := by
  unfold runsF at h
  split at h
  · cases h
  · rename_i n l1 hn
    obtain ⟨a1, a2, a3, a4, a5⟩ := numF_read hb hn
    split at h
    · cases h
    · rename_i r l2 hr
      obtain ⟨b1, b2, b3, b4, b5, b6, b7⟩ := runF_read a5 hr
      split at h
      · cases h
      · rename_i rs' l3 hm
        simp only [Sum.inl.injEq, Prod.mk.injEq] at h
        obtain ⟨rfl, rfl⟩ := h
        obtain ⟨c1, c2, c3, c4, c5⟩ := moreF_read n.toNat r.1 l2 rs' l3 b7 (by omega) hm
        have e1 : (rs'.length : Int) = n := by omega
        refine ⟨?_, by simp [b2], ?_, by simp; omega, c5, b1⟩
        · simp only [areF, fallF, Bool.and_eq_true, decide_eq_true_eq]
          exact ⟨⟨⟨⟨b3, b4⟩, by omega⟩, c1⟩, by simp⟩
        · simp only [runsN, e1, encL, List.flatMap_cons, List.length_append] at c3 ⊢
          omega

theorem Bs.take {l : List Int} (h : Bs l) (n : Nat) : Bs (l.take n) := fun x hx => h x (List.mem_of_mem_take hx)
theorem bytesF_read {off n : Int} {l d l' : List Int} (hn : 0 ≤ n) (h : bytesF off n l = .inl (d, l')) : (d.length : Int) = n ∧ n ≤ MAXN - off ∧ d.length + l'.length = l.length ∧ l' = l.drop n.toNat ∧ d = l.take n.toNat := by
  unfold bytesF at h
  split at h
  · cases h
  · split at h
    · cases h
    · simp only [Sum.inl.injEq, Prod.mk.injEq] at h
      obtain ⟨rfl, rfl⟩ := h
      refine ⟨?_, by omega, ?_, rfl, rfl⟩ <;> simp <;> omega

section
variable {g g' : Fr} {l l' : List Int}
theorem read_num {p : Nat} (hp : p = 1 ∨ p = 2 ∨ p = 3 ∨ p = 4 ∨ p = 5 ∨ p = 6 ∨ p = 7) (hb : Bs l) (h : readP p g l = .inl (g', l')) : ∃ v, g' = setF g p v ∧ 0 ≤ v ∧ v ≤ mostF p ∧ v ≤ MAXN ∧ (encN v).length + l'.length ≤ l.length ∧ Bs l' := by
  have r : readP p g l = match numF l with | none => .inr 40 | some (v, l1) => if v > mostF p then .inr 42 else .inl (setF g p v, l1) := by
    rcases hp with rfl | rfl | rfl | rfl | rfl | rfl | rfl <;> rfl
  rw [r] at h
  split at h
  · cases h
  · rename_i v l1 hn
    split at h
    · cases h
    · simp only [Sum.inl.injEq, Prod.mk.injEq] at h
      obtain ⟨rfl, rfl⟩ := h
      obtain ⟨a1, a2, a3, a4, a5⟩ := numF_read hb hn
      exact ⟨v, rfl, a1, by omega, a2, a3, a5⟩
theorem read_8 (hb : Bs l) (h : readP 8 g l = .inl (g', l')) : ∃ v, g' = { g with runs := [(0, v)] } ∧ 0 ≤ v ∧ v ≤ MAXN ∧ (encN v).length + l'.length ≤ l.length ∧ Bs l' := by
  have r : readP 8 g l = match numF l with | none => .inr 40 | some (v, l1) => .inl ({ g with runs := [(0, v)] }, l1) := rfl
  rw [r] at h
  split at h
  · cases h
  · rename_i v l1 hn
    simp only [Sum.inl.injEq, Prod.mk.injEq] at h
    obtain ⟨rfl, rfl⟩ := h
    obtain ⟨a1, a2, a3, a4, a5⟩ := numF_read hb hn
    exact ⟨v, rfl, a1, a2, a3, a5⟩
theorem read_9 (hb : Bs l) (hh : (g.runs.headD (0, 0)).2 ≤ MAXN) (h : readP 9 g l = .inl (g', l')) : ∃ rs, g' = { g with runs := rs } ∧ areF rs = true ∧ (rs.headD (0, 0)).2 = (g.runs.headD (0, 0)).2 ∧ (encL (runsN rs)).length + l'.length ≤ l.length ∧ rs.length + l'.length ≤ l.length ∧ Bs l' := by
  have r : readP 9 g l = match runsF (g.runs.headD (0, 0)).2 l with | .inr e => .inr e | .inl (rs, l1) => .inl ({ g with runs := rs }, l1) := rfl
  rw [r] at h
  split at h
  · cases h
  · rename_i rs l1 hn
    simp only [Sum.inl.injEq, Prod.mk.injEq] at h
    obtain ⟨rfl, rfl⟩ := h
    obtain ⟨a1, a2, a3, a4, a5, a6⟩ := runsF_read hb hh hn
    exact ⟨rs, rfl, a1, a2, a3, a4, a5⟩
theorem read_10 (hb : Bs l) (h : readP 10 g l = .inl (g', l')) : ∃ a b c, g' = { g with c0 := a, c1 := b, c2 := c } ∧ (0 ≤ a ∧ a ≤ MAXN) ∧ (0 ≤ b ∧ b ≤ MAXN) ∧ (0 ≤ c ∧ c ≤ MAXN) ∧ (encN a).length + (encN b).length + (encN c).length + l'.length ≤ l.length := by
  have r : readP 10 g l = match numF l with
    | none => .inr 40
    | some (a, l1) => match numF l1 with
      | none => .inr 40
      | some (b, l2) => match numF l2 with
        | none => .inr 40
        | some (c, l3) => .inl ({ g with c0 := a, c1 := b, c2 := c }, l3) := rfl
  rw [r] at h
  split at h
  · cases h
  · rename_i a l1 h1
    split at h
    · cases h
    · rename_i b l2 h2
      split at h
      · cases h
      · rename_i c l3 h3
        simp only [Sum.inl.injEq, Prod.mk.injEq] at h
        obtain ⟨rfl, rfl⟩ := h
        obtain ⟨a1, a2, a3, a4, a5⟩ := numF_read hb h1
        obtain ⟨b1, b2, b3, b4, b5⟩ := numF_read a5 h2
        obtain ⟨c1, c2, c3, c4, c5⟩ := numF_read b5 h3
        exact ⟨a, b, c, rfl, ⟨a1, a2⟩, ⟨b1, b2⟩, ⟨c1, c2⟩, by omega⟩
theorem read_11 (hb : Bs l) (h : readP 11 g l = .inl (g', l')) : ∃ d : List Int, g' = { g with data := d } ∧ (d.length : Int) ≤ MAXN - g.offset ∧ (encN (d.length : Int)).length + d.length + l'.length ≤ l.length ∧ Bs d := by
  have r : readP 11 g l = match numF l with
    | none => .inr 40
    | some (n, l1) => match bytesF g.offset n l1 with | .inr e => .inr e | .inl (d, l2) => .inl ({ g with data := d }, l2) := rfl
  rw [r] at h
  split at h
  · cases h
  · rename_i n l1 h1
    obtain ⟨a1, a2, a3, a4, a5⟩ := numF_read hb h1
    split at h
    · cases h
    · rename_i d l2 h2
      simp only [Sum.inl.injEq, Prod.mk.injEq] at h
      obtain ⟨rfl, rfl⟩ := h
      obtain ⟨b1, b2, b3, -, b5⟩ := bytesF_read a1 h2
      exact ⟨d, rfl, by omega, by rw [b1]; omega, by rw [b5]; exact a5.take _⟩
theorem read_12 (hb : Bs l) (h : readP 12 g l = .inl (g', l')) : ∃ d : List Int, g' = { g with data := d } ∧ (d.length : Int) ≤ MAXN - g.offset ∧ d.length + l'.length ≤ l.length ∧ Bs d := by
  have r : readP 12 g l = match bytesF g.offset l.length l with | .inr e => .inr e | .inl (d, l2) => .inl ({ g with data := d }, l2) := rfl
  rw [r] at h
  split at h
  · cases h
  · rename_i d l2 h2
    simp only [Sum.inl.injEq, Prod.mk.injEq] at h
    obtain ⟨rfl, rfl⟩ := h
    obtain ⟨b1, b2, b3, -, b5⟩ := bytesF_read (by omega) h2
    exact ⟨d, rfl, by omega, by omega, by rw [b5]; exact hb.take _⟩
theorem read_13 (hb : Bs l) (h : readP 13 g l = .inl (g', l')) : ∃ d : List Int, g' = { g with data := d } ∧ d.length = 8 ∧ d.length + l'.length ≤ l.length ∧ Bs d := by
  have r : readP 13 g l = match bytesF 0 8 l with | .inr e => .inr e | .inl (d, l2) => .inl ({ g with data := d }, l2) := rfl
  rw [r] at h
  split at h
  · cases h
  · rename_i d l2 h2
    simp only [Sum.inl.injEq, Prod.mk.injEq] at h
    obtain ⟨rfl, rfl⟩ := h
    obtain ⟨b1, b2, b3, -, b5⟩ := bytesF_read (by omega) h2
    exact ⟨d, rfl, by omega, by omega, by rw [b5]; exact hb.take _⟩
theorem zrs_le : ∀ (m : Nat) (l : List Int), zrs m l ≤ m ∧ zrs m l ≤ l.length := by
  intro m
  induction m with
  | zero => intro l; simp [zrs]
  | succ m ih =>
    intro l
    cases l with
    | nil => simp [zrs]
    | cons x l =>
      have := ih l
      simp only [zrs]
      split <;> simp <;> omega
theorem read_14 (h : readP 14 g l = .inl (g', l')) : ∃ z : Nat, g' = { g with size := (z : Int) + 1 } ∧ z ≤ 65534 ∧ z + l'.length ≤ l.length := by
  have r : readP 14 g l = .inl ({ g with size := (zrs 65534 l : Int) + 1 }, l.drop (zrs 65534 l)) := rfl
  rw [r] at h
  simp only [Sum.inl.injEq, Prod.mk.injEq] at h
  obtain ⟨rfl, rfl⟩ := h
  obtain ⟨h1, h2⟩ := zrs_le 65534 l
  exact ⟨_, rfl, h1, by simp; omega⟩
theorem read_0 (h : readP 0 g l = .inl (g', l')) : g' = g ∧ l' = l := by
  have r : readP 0 g l = .inl (g, l) := rfl
  rw [r] at h
  simp only [Sum.inl.injEq, Prod.mk.injEq] at h
  exact ⟨h.1.symm, h.2.symm⟩
end

theorem bind_inl {x : (Fr × List Int) ⊕ Int} {k : Fr → List Int → (Fr × List Int) ⊕ Int} {y : Fr × List Int} (h : bind' x k = .inl y) : ∃ f l, x = .inl (f, l) ∧ k f l = .inl y := by
  unfold bind' at h
  split at h
  · cases h
  · exact ⟨_, _, rfl, h⟩
theorem readPs_inl {p : Parts} {f : Fr} {l : List Int} {y : Fr × List Int} (h : readPs p f l = .inl y) : ∃ f1 l1 f2 l2 f3 l3, readP p.1 f l = .inl (f1, l1) ∧ readP p.2.1 f1 l1 = .inl (f2, l2) ∧ readP p.2.2.1 f2 l2 = .inl (f3, l3) ∧ readP p.2.2.2 f3 l3 = .inl y := by
  unfold readPs at h
  obtain ⟨f1, l1, h1, h⟩ := bind_inl h
  obtain ⟨f2, l2, h2, h⟩ := bind_inl h
  obtain ⟨f3, l3, h3, h⟩ := bind_inl h
  exact ⟨f1, l1, f2, l2, f3, l3, h1, h2, h3, h⟩

/-- What is told of a frame of a type. -/
theorem tell_of {f bare : Fr} {l : Parts} (hk : isKindF f.kind = true) (hs : shapeF (typeF f) = some (bare, l)) (hm : mayF f bare l = true) : tellF f = .inl (typeF f :: (numsP f l.1 ++ numsP f l.2.1 ++ numsP f l.2.2.1 ++ numsP f l.2.2.2), restF f l.1 f.data) := by
  unfold tellF
  rw [if_pos hk, hs]
  simp only
  rw [if_pos hm]
theorem size_one {k : Int} (h0 : 0 ≤ k) (h : k ≤ 63) : (encN k).length = 1 := by
  rw [encN_length]; unfold sizeF; (repeat' split) <;> omega
end Go.Proofs.Ytggjeamondampab
